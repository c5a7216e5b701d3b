import PyProof.Rows.All
import Wide.All
import OpenK.AllK
import Wide.FinOn
import Lean
import PyProof.EqAt
import PyProof.EqKinds
import PyProof.TupleCall
import PyProof.SetKind
import PyProof.DictKinds
import PyProof.DictStraight
import PySem.SetOps
import PyProof.SetScanFacts
import PyProof.FactsAll.set
import PyProof.Walks
import PyProof.WalksS
import PyProof.Seq
import PyProof.FactsBase
import PyProof.Rows.TupIn
import PyProof.CollectWalk
import PyProof.ListNew
import PyProof.MakeMany
import PyProof.Rows.SetFrom
import PyProof.Rows.SortShell
import PyProof.Rows.SortWalk
import PyProof.Rows.Tup
import PyProof.TupleIter
import PyProof.TupleOfGen
import KE.KRevIter
import PyProof.ZipIter
import PyProof.Rows.Range3
import PyProof.CompUse
import PyProof.EqLayable
import KE.KRevSl
import PyProof.P3Eq
import KE.KTryMore
import OpenK.KOwn
import PyProof.ExcArgsOwn
import PyProof.WalkInts
import PyProof.ListRange
import PyProof.EnumMake
import PyProof.EnumFor
import PyProof.MeetsStr2
import PyProof.StrBlockG
import PyProof.StrBlockH
import PyProof.StrCalls2
import PyProof.Rows.StrSplitJoin
import PyProof.StrWalks
import KE.KIntText
import PyProof.StrLawsIn
import KE.IntTextLaws
import PyProof.ListMulAny
import PyProof.FactsAll.tuple_2
import PySem.Challenge.RW_tillcoins_k05_sums_and_ways_refused
set_option Elab.async false
set_option linter.all false
set_option maxRecDepth 100000
namespace L2
open PySem PySem.Spec PyProof.Rows
abbrev Key := Sum Int Str
def keyIs : Key → Value → Bool
  | .inl k, v => Value.isInt k v
  | .inr x, v => Value.isStrOf x v
def keyH (w : World) : Key → Int
  | .inl k => hashInt k
  | .inr x => hashStr w x
theorem keyIs_shape : ∀ {k : Key} {v : Value}, keyIs k v = true → (∃ i t, k = Sum.inl i ∧ v = Value.int i t) ∨ (∃ x t, k = Sum.inr x ∧ v = Value.str x t)
  | .inl i, v, h => by
    obtain ⟨t, e⟩ := Value.isInt_shape (k := i) (v := v) h
    exact .inl ⟨i, t, rfl, e⟩
  | .inr x, v, h => by
    obtain ⟨t, e⟩ := Value.isStrOf_shape (x := x) (v := v) h
    exact .inr ⟨x, t, rfl, e⟩
theorem keyIs_int (i : Int) (t : Tok) : keyIs (.inl i) (.int i t) = true := by simp [keyIs, Value.isInt]
theorem keyIs_str (x : Str) (t : Tok) : keyIs (.inr x) (.str x t) = true := by simp [keyIs, Value.isStrOf]
theorem key_ll (a b : Int) : decide ((Sum.inl a : Key) = Sum.inl b) = (a == b) := by
  by_cases e : a = b
  · subst e; simp
  · have h : ¬ (Sum.inl a : Key) = Sum.inl b := fun q => e (Sum.inl.inj q)
    rw [decide_eq_false h]
    exact (beq_eq_false_iff_ne.mpr e).symm
theorem key_rr (a b : Str) : decide ((Sum.inr a : Key) = Sum.inr b) = decide (a = b) := by
  by_cases e : a = b
  · subst e; simp
  · have h : ¬ (Sum.inr a : Key) = Sum.inr b := fun q => e (Sum.inr.inj q)
    rw [decide_eq_false h, decide_eq_false e]
theorem key_lr (a : Int) (b : Str) : decide ((Sum.inl a : Key) = Sum.inr b) = false := decide_eq_false (fun q => nomatch q)
theorem key_rl (a : Str) (b : Int) : decide ((Sum.inr a : Key) = Sum.inl b) = false := decide_eq_false (fun q => nomatch q)
def mixKind (prog : Program) (w : World) : PySem.KeyKind prog w Key where
  is := keyIs
  hash := keyH w
  inj := fun v a b ha hb => by
    rcases keyIs_shape ha with ⟨i, t, rfl, rfl⟩ | ⟨x, t, rfl, rfl⟩
    · rcases keyIs_shape hb with ⟨j, u, rfl, e⟩ | ⟨y, u, rfl, e⟩
      · injection e with e1 _; rw [e1]
      · exact nomatch e
    · rcases keyIs_shape hb with ⟨j, u, rfl, e⟩ | ⟨y, u, rfl, e⟩
      · exact nomatch e
      · injection e with e1 _; rw [e1]
  byValue := fun k v h => by
    rcases keyIs_shape h with ⟨i, t, rfl, rfl⟩ | ⟨x, t, rfl, rfl⟩ <;> rfl
  pyHash := fun hv h => by
    rcases keyIs_shape hv with ⟨i, t, rfl, rfl⟩ | ⟨x, t, rfl, rfl⟩
    · exact wpAny_pyHash_int h
    · exact wpAny_pyHash_str h
  eqBool := fun hu hv h => by
    rcases keyIs_shape hu with ⟨i, t, rfl, rfl⟩ | ⟨x, t, rfl, rfl⟩
    · rcases keyIs_shape hv with ⟨j, u, rfl, rfl⟩ | ⟨y, u, rfl, rfl⟩
      · rw [key_ll] at h; exact wpAny_eqBool_int h
      · rw [key_lr] at h; exact SeqAt.EqAt.int_str i t y u _ _ _ _ h
    · rcases keyIs_shape hv with ⟨j, u, rfl, rfl⟩ | ⟨y, u, rfl, rfl⟩
      · rw [key_rl] at h; exact SeqAt.EqAt.str_int x t j u _ _ _ _ h
      · rw [key_rr] at h; exact wpAny_eqBool_str h
  «strs» := fun k x t v h => by
    rcases keyIs_shape h with ⟨i, u, rfl, e⟩ | ⟨y, u, rfl, e⟩
    · exact nomatch e
    · injection e with e1 _
      subst e1
      cases v <;> rfl
theorem mixKind_int (prog : Program) (w : World) (i : Int) (t : Tok) : (mixKind prog w).is (.inl i) (.int i t) = true := keyIs_int i t
theorem mixKind_str (prog : Program) (w : World) (x : Str) (t : Tok) : (mixKind prog w).is (.inr x) (.str x t) = true := keyIs_str x t
end L2
namespace L2
open PySem PySem.Spec PyProof.Rows
inductive V where
  | non | bl (b : Bool) | int (i : Int) | str (x : Str) | byt (b : Array UInt8) | flt (b : UInt64) | ref (a : Addr) | ty (n : String)
  deriving DecidableEq
def RelV : V → Value → Prop
  | .non, u => u = Value.none
  | .bl b, u => u = Value.bool b
  | .int i, u => ∃ t, u = Value.int i t
  | .str x, u => ∃ t, u = Value.str x t
  | .byt b, u => ∃ t, u = Value.bytes b t
  | .flt b, u => ∃ t, u = Value.float b t
  | .ref a, u => u = Value.ref a
  | .ty n, u => u = Value.type n
abbrev Vals : List V → List Value → Prop := Paired RelV
theorem Vals.length {xs : List V} {us : List Value} (r : Vals xs us) : xs.length = us.length := Paired.length r
theorem Vals.get : ∀ {xs : List V} {us : List Value} {i : Nat} {x : V}, Vals xs us → xs[i]? = some x → ∃ u, us[i]? = some u ∧ RelV x u
  | _, _, _, _, .nil, e => by simp at e
  | _, _, 0, _, .cons r _, e => by simp at e; subst e; exact ⟨_, rfl, r⟩
  | _, _, i + 1, x, .cons _ t, e => by
    obtain ⟨u, h1, h2⟩ := Vals.get (i := i) (x := x) t (by simpa using e)
    exact ⟨u, by simpa using h1, h2⟩
theorem Vals.set {x : V} {u : Value} (r : RelV x u) : ∀ {xs : List V} {us : List Value} (i : Nat), Vals xs us → Vals (xs.set i x) (us.set i u)
  | _, _, _, .nil => .nil
  | _, _, 0, .cons _ t => .cons r t
  | _, _, i + 1, .cons q t => .cons q (Vals.set r i t)
theorem Vals.append : ∀ {xs ys : List V} {us ws : List Value}, Vals xs us → Vals ys ws → Vals (xs ++ ys) (us ++ ws)
  | _, _, _, _, .nil, s => s
  | _, _, _, _, .cons r t, s => .cons r (Vals.append t s)
theorem Vals.take : ∀ {xs : List V} {us : List Value} (n : Nat), Vals xs us → Vals (xs.take n) (us.take n)
  | _, _, 0, _ => .nil
  | _, _, _ + 1, .nil => .nil
  | _, _, n + 1, .cons r t => .cons r (Vals.take n t)
theorem Vals.drop : ∀ {xs : List V} {us : List Value} (n : Nat), Vals xs us → Vals (xs.drop n) (us.drop n)
  | _, _, 0, r => r
  | _, _, _ + 1, .nil => .nil
  | _, _, n + 1, .cons _ t => Vals.drop n t
def RelO : Option V → Option Value → Prop
  | some v, some u => RelV v u
  | none, none => True
  | _, _ => False
def KV {κ : Type} : List (κ × V) → List (κ × Value) → Prop := Paired fun (p : κ × V) (q : κ × Value) => p.1 = q.1 ∧ RelV p.2 q.2
def kV : Key → V
  | .inl i => .int i
  | .inr x => .str x
inductive HO where
  | lst (xs : List V)
  | tup (xs : List V)
  | dK (kvs : List (Key × V)) | dT (kvs : List (List Key × V))
  | set (S : Int → Bool) (n : Nat)
  | ins (C dx : Addr) (fs : List (Str × V))
  | own (x : Addr)
  | xd (fs : List (Str × V))
  | met (f x : Addr)
  | rng (lo hi : Int)
  | frz (o : Obj) (u : HO)
  | tbl (ps : Array Value)
  | ext (φ : Heap → Prop)
abbrev Hp := Addr → Option HO
def upd (H : Hp) (a : Addr) (o : HO) : Hp := fun b => if b = a then some o else H b
theorem upd_same {H : Hp} {a : Addr} {o : HO} : upd H a o a = some o := by unfold upd; rw [if_pos rfl]
theorem upd_ne {H : Hp} {a b : Addr} {o : HO} (h : b ≠ a) : upd H a o b = H b := by unfold upd; rw [if_neg h]
theorem ne_of {H : Hp} {a b : Addr} {o u : HO} (h : H a = some o) (h' : H b = some u) (d : o ≠ u) : a ≠ b := by
  intro e; subst e; rw [h] at h'; exact d (Option.some.inj h')
theorem ne_of_none {H : Hp} {a b : Addr} {o : HO} (h : H a = some o) (h' : H b = none) : a ≠ b := by
  intro e; subst e; rw [h] at h'; cases h'
section
variable (P : Program) (w : World)
def ObjOk (H : Hp) (h : Heap) (a : Addr) : HO → Prop
  | .lst xs => xs.length ≤ sizeLine ∧ ∃ (its : List Value) (n : Nat), Vals xs its ∧ h.get? a = some { cls := .type "list", data := .seq its.toArray n }
  | .tup xs => xs.length ≤ sizeLine ∧ ∃ its : List Value, Vals xs its ∧ IsTup h a its.toArray
  | .dK kvs => kvs.length ≤ sizeLine ∧ (a == sysModules) = false ∧ ∃ vs, KV kvs vs ∧ h.DictOf (mixKind P w) a vs
  | .dT kvs => kvs.length ≤ sizeLine ∧ (a == sysModules) = false ∧ ∃ xs : List (List Key × Addr × Value),
      Paired (fun (p : List Key × V) (q : List Key × Addr × Value) => p.1 = q.1 ∧ H q.2.1 = some (.tup (p.1.map kV)) ∧ RelV p.2 q.2.2) kvs xs ∧
      ∃ o es ep, h.get? a = some o ∧ o.ExactDict ∧ o.data = .dict es ep ∧ es.toList = xs.map (entryOfKey (tupleKind (mixKind P w))) ∧ (xs.map (·.1)).Nodup
  | .set S n => h.SetOf (intKind P w) a S n
  | .ins C dx fs => H dx = some (.own a) ∧ fs.length ≤ 1000 ∧ dx ≠ a ∧ h.get? a = some (PySem.W.instObj C dx) ∧
      ∃ mA, h.Ns1 dx mA ∧ (∀ f, RelO (fs.lookup f) (mA f)) ∧ PySem.Within mA (fs.map (·.1))
  | .own _ => ∃ o, h.get? a = some o
  | .xd fs => ∃ mA, h.Ns1 a mA ∧ ∀ f, RelO (fs.lookup f) (mA f)
  | .rng lo hi => ∃ t u v, h.get? a = some { cls := .type "range", data := .fields #[.int lo t, .int hi u, .int 1 v] }
  | .frz o u => h.get? a = some o ∧ ObjOk H h a u
  | .tbl ps => h.get? a = some { cls := .none, data := .fields ps }
  | .met f x => h.get? a = some (PySem.W.methodObj (.ref f) (.ref x))
  | .ext φ => φ h ∧ (∃ o, h.get? a = some o) ∧ ∀ h1 h2 : Heap, φ h1 → (∀ o, h1.get? a = some o → h2.get? a = some o) → φ h2
def HOk (H : Hp) (h : Heap) : Prop := ∀ a o, H a = some o → ObjOk P w H h a o
end
section
variable {P : Program} {w : World} {H H' : Hp} {h h' : Heap} {a : Addr} {o : HO}
theorem ObjOk.lt (x : ObjOk P w H h a o) : a < h.objs.size := by
  cases o with
  | lst xs => obtain ⟨_, _, _, _, e⟩ := x; exact Heap.lt_size e
  | tup xs => obtain ⟨_, _, _, p⟩ := x; exact p.lt
  | dK kvs => obtain ⟨_, _, _, _, o, _, _, e, _⟩ := x; exact Heap.lt_size e
  | dT kvs => obtain ⟨_, _, _, _, o, _, _, e, _⟩ := x; exact Heap.lt_size e
  | set S n => obtain ⟨o, _, _, _, e, _⟩ := x; exact Heap.lt_size e
  | ins C dx fs => obtain ⟨_, _, _, e, _⟩ := x; exact Heap.lt_size e
  | own y => obtain ⟨_, e⟩ := x; exact Heap.lt_size e
  | xd fs => obtain ⟨_, ⟨_, _, _, e, _⟩, _⟩ := x; exact Heap.lt_size e
  | rng lo hi => obtain ⟨_, _, _, e⟩ := x; exact Heap.lt_size e
  | frz ob u => obtain ⟨e, _⟩ := x; exact Heap.lt_size e
  | tbl ps => exact Heap.lt_size (show h.get? a = some _ from x)
  | met f y => exact Heap.lt_size (show h.get? a = some _ from x)
  | ext φ => obtain ⟨_, ⟨_, e⟩, _⟩ := x; exact Heap.lt_size e
theorem Paired.mapP {α β : Type} {F G : α → β → Prop} : ∀ {l₁ : List α} {l₂ : List β}, Paired F l₁ l₂ → (∀ a b, F a b → G a b) → Paired G l₁ l₂
  | _, _, .nil, _ => .nil
  | _, _, .cons r t, f => .cons (f _ _ r) (Paired.mapP t f)
theorem ObjOk.stay (x : ObjOk P w H h a o) (k : ∀ b u, (b = a ∨ H b = some (.own a)) → h.get? b = some u → h'.get? b = some u)
    (ho : ∀ b, H b = some (.own a) → H' b = some (.own a)) (ht : ∀ b xs, H b = some (.tup xs) → H' b = some (.tup xs)) : ObjOk P w H' h' a o := by
  induction o with
  | lst xs => obtain ⟨z, its, n, r, e⟩ := x; exact ⟨z, its, n, r, k _ _ (.inl rfl) e⟩
  | tup xs => obtain ⟨z, its, r, ob, e, c⟩ := x; exact ⟨z, its, r, ob, k _ _ (.inl rfl) e, c⟩
  | dK kvs => obtain ⟨z, y, vs, r, ob, es, ep, e, c⟩ := x; exact ⟨z, y, vs, r, ob, es, ep, k _ _ (.inl rfl) e, c⟩
  | dT kvs =>
    obtain ⟨z, y, xs, r, ob, es, ep, e, c⟩ := x
    exact ⟨z, y, xs, Paired.mapP r fun p q z => ⟨z.1, ht _ _ z.2.1, z.2.2⟩, ob, es, ep, k _ _ (.inl rfl) e, c⟩
  | set S n => obtain ⟨ob, es, ep, t, e, c⟩ := x; exact ⟨ob, es, ep, t, k _ _ (.inl rfl) e, c⟩
  | ins C dx fs =>
    obtain ⟨d, z, ne, e, mA, ⟨od, es, ep, e2, c⟩, r⟩ := x
    exact ⟨ho _ d, z, ne, k _ _ (.inl rfl) e, mA, ⟨od, es, ep, k _ _ (.inr d) e2, c⟩, r⟩
  | own y => obtain ⟨ob, e⟩ := x; exact ⟨ob, k _ _ (.inl rfl) e⟩
  | xd fs => obtain ⟨mA, ⟨od, es, ep, e, c⟩, r⟩ := x; exact ⟨mA, ⟨od, es, ep, k _ _ (.inl rfl) e, c⟩, r⟩
  | rng lo hi => obtain ⟨t, u, v, e⟩ := x; exact ⟨t, u, v, k _ _ (.inl rfl) e⟩
  | frz ob u ih => obtain ⟨e, q⟩ := x; exact ⟨k _ _ (.inl rfl) e, ih q⟩
  | tbl ps =>
    have e : h.get? a = some { cls := .none, data := .fields ps } := x
    show h'.get? a = some { cls := .none, data := .fields ps }
    exact k a _ (.inl rfl) e
  | met f y =>
    have e : h.get? a = some (PySem.W.methodObj (.ref f) (.ref y)) := x
    show h'.get? a = some (PySem.W.methodObj (.ref f) (.ref y))
    exact k a _ (.inl rfl) e
  | ext φ => obtain ⟨p, ⟨o, e⟩, st⟩ := x; exact ⟨st _ _ p fun o q => k _ _ (.inl rfl) q, ⟨o, k _ _ (.inl rfl) e⟩, st⟩
theorem HOk.lt (x : HOk P w H h) (e : H a = some o) : a < h.objs.size := (x a o e).lt
theorem HOk.fresh (x : HOk P w H h) (e : h.objs.size ≤ a) : H a = none := by
  cases q : H a with
  | none => rfl
  | some u => exact absurd (Nat.lt_of_lt_of_le (x.lt q) e) (Nat.lt_irrefl _)
theorem HOk.kept (x : HOk P w H h) (k : ∀ b u, h.get? b = some u → h'.get? b = some u) : HOk P w H h' := fun a o e =>
  (x a o e).stay (fun b u _ q => k b u q) (fun _ q => q) fun _ _ q => q
theorem HOk.laid (x : HOk P w H h) (k : ∀ b u, h.get? b = some u → h'.get? b = some u) (hp : h.objs.size ≤ a) (new : ObjOk P w (upd H a o) h' a o) : HOk P w (upd H a o) h' := fun b u e => by
  have hn := x.fresh hp
  by_cases hb : b = a
  · subst hb; rw [upd_same] at e; cases e; exact new
  · rw [upd_ne hb] at e
    exact (x b u e).stay (fun c v _ q => k c v q) (fun c q => by rw [upd_ne (ne_of_none q hn)]; exact q) fun c xs q => by rw [upd_ne (ne_of_none q hn)]; exact q
end
def Rd (H : Hp) (a : Addr) (u : HO) : Prop := H a = some u ∨ ∃ o, H a = some (.frz o u)
theorem Rd.of {H : Hp} {a : Addr} {u : HO} (h : H a = some u) : Rd H a u := .inl h
theorem Rd.ok {P : Program} {w : World} {H : Hp} {h : Heap} {a : Addr} {u : HO} (r : Rd H a u) (x : HOk P w H h) : ObjOk P w H h a u := by
  rcases r with r | ⟨o, r⟩
  · exact x a u r
  · obtain ⟨_, q⟩ := x a _ r
    exact q
def Mut : Option HO → Prop
  | some (.lst _) => True
  | some (.dK _) => True
  | some (.dT _) => True
  | some (.set _ _) => True
  | some (.ins _ _ _) => True
  | some (.ext _) => True
  | _ => False
section
variable {P : Program} {w : World} {H : Hp} {h h' : Heap} {x e : Addr} {o' : HO}
theorem HOk.write (ok : HOk P w H h) (mu : Mut (H x)) (he : e = x ∨ H e = some (.own x)) (k : ∀ b u, b ≠ e → h.get? b = some u → h'.get? b = some u) (heo : ∃ u, h'.get? e = some u)
    (new : ObjOk P w (upd H x o') h' x o') : HOk P w (upd H x o') h' := fun b u q => by
  have nown : ∀ c y, H c = some (.own y) → c ≠ x := fun c y r z => by subst z; rw [r] at mu; exact mu
  have ntup : ∀ c xs, H c = some (.tup xs) → c ≠ x := fun c xs r z => by subst z; rw [r] at mu; exact mu
  by_cases hb : b = x
  · subst hb; rw [upd_same] at q; cases q; exact new
  · rw [upd_ne hb] at q
    by_cases hbe : b = e
    · have q' : H b = some (.own x) := by
        rcases he with z | z
        · exact absurd (hbe.trans z) hb
        · rw [hbe]; exact z
      rw [q] at q'; cases q'
      obtain ⟨v, hv⟩ := heo
      exact ⟨v, by rw [hbe]; exact hv⟩
    · refine (ok b u q).stay (fun c v hc r => k c v ?_ r) (fun c r => by rw [upd_ne (nown c b r)]; exact r) fun c xs r => by rw [upd_ne (ntup c xs r)]; exact r
      rcases hc with rfl | hc
      · exact hbe
      · rintro rfl
        rcases he with z | z
        · exact nown c b hc z
        · rw [hc] at z; cases z; exact hb rfl
end
structure Un (fs ex : List Addr) (H H' : Hp) (h h' : Heap) : Prop where
  keep : ∀ b o, h.get? b = some o → H b = none → b ∉ fs → b ∉ ex → h'.get? b = some o
  slot : ∀ b o, h.get? b = some o → H b = none → b ∈ fs → b ∉ ex → ∃ sl, h'.get? b = some { o with slots := sl }
  free : ∀ b o, h.get? b = some o → H b = none → b ∉ ex → H' b = none
  there : ∀ b o, h.get? b = some o → b ∉ ex → ∃ o', h'.get? b = some o'
  tups : ∀ b xs, H b = some (.tup xs) → H' b = some (.tup xs)
  frzs : ∀ b o u, H b = some (.frz o u) → H' b = some (.frz o u)
  tbls : ∀ b ps, H b = some (.tbl ps) → ∃ more, H' b = some (.tbl (ps ++ more))
section
variable {fs fs' ex ex' : List Addr} {H H1 H2 : Hp} {h h1 h2 h' : Heap} {a x e : Addr} {o : HO}
theorem Un.any (u : Un fs ex H H1 h h1) {b : Addr} {ob : Obj} (q : h.get? b = some ob) (n : H b = none) (hx : b ∉ ex) : ∃ sl, h1.get? b = some { ob with slots := sl } := by
  by_cases hb : b ∈ fs
  · exact u.slot b ob q n hb hx
  · exact ⟨ob.slots, u.keep b ob q n hb hx⟩
theorem Un.trans (a : Un fs ex H H1 h h1) (b : Un fs ex H1 H2 h1 h2) : Un fs ex H H2 h h2 where
  keep := fun c ob q n hc hx => b.keep c ob (a.keep c ob q n hc hx) (a.free c ob q n hx) hc hx
  slot := fun c ob q n hc hx => by
    obtain ⟨sl, e1⟩ := a.slot c ob q n hc hx
    obtain ⟨sl', e2⟩ := b.slot c _ e1 (a.free c ob q n hx) hc hx
    exact ⟨sl', e2⟩
  free := fun c ob q n hx => by
    obtain ⟨o', e1⟩ := a.there c ob q hx
    exact b.free c o' e1 (a.free c ob q n hx) hx
  there := fun c ob q hx => by
    obtain ⟨o', e1⟩ := a.there c ob q hx
    exact b.there c o' e1 hx
  tups := fun c xs q => b.tups c xs (a.tups c xs q)
  frzs := fun c ob xs q => b.frzs c ob xs (a.frzs c ob xs q)
  tbls := fun c ps q => by
    obtain ⟨m1, e1⟩ := a.tbls c ps q
    obtain ⟨m2, e2⟩ := b.tbls c _ e1
    exact ⟨m1 ++ m2, by rw [e2, Array.append_assoc]⟩
theorem Un.kept (k : ∀ b u, h.get? b = some u → h'.get? b = some u) : Un fs ex H H h h' :=
  ⟨fun b ob q _ _ _ => k b ob q, fun b ob q _ _ _ => ⟨ob.slots, k b ob q⟩, fun _ _ _ n _ => n, fun b ob q _ => ⟨ob, k b ob q⟩, fun _ _ q => q, fun _ _ _ q => q, fun _ ps q => ⟨#[], by rw [q]; simp⟩⟩
theorem Un.refl : Un fs ex H H h h := Un.kept fun _ _ q => q
theorem Un.laid (k : ∀ b u, h.get? b = some u → h'.get? b = some u) (hp : h.objs.size ≤ a) (hn : H a = none) : Un fs ex H (upd H a o) h h' where
  keep := fun b u q _ _ _ => k b u q
  slot := fun b u q _ _ _ => ⟨u.slots, k b u q⟩
  free := fun b u q n _ => by rw [upd_ne (Nat.ne_of_lt (Nat.lt_of_lt_of_le (Heap.lt_size q) hp))]; exact n
  there := fun b u q _ => ⟨u, k b u q⟩
  tups := fun b xs q => by rw [upd_ne (ne_of_none q hn)]; exact q
  frzs := fun b u xs q => by rw [upd_ne (ne_of_none q hn)]; exact q
  tbls := fun b ps q => ⟨#[], by rw [upd_ne (ne_of_none q hn), q]; simp⟩
theorem Un.write (mu : Mut (H x)) (he : e = x ∨ H e = some (.own x)) (k : ∀ b u, b ≠ e → h.get? b = some u → h'.get? b = some u) (heo : ∃ u, h'.get? e = some u) : Un fs ex H (upd H x o) h h' := by
  have hx : ∀ b, H b = none → b ≠ x := fun b n z => by subst z; rw [n] at mu; exact mu
  have hb : ∀ b, H b = none → b ≠ e := fun b n z => by
    subst z
    rcases he with r | r
    · exact hx b n r
    · rw [n] at r; cases r
  have hm : ∀ b u, H b = some u → ¬ Mut (some u) → b ≠ x := fun b u q nm z => by subst z; rw [q] at mu; exact nm mu
  refine ⟨fun b u q n _ _ => k b u (hb b n) q, fun b u q n _ _ => ⟨u.slots, k b u (hb b n) q⟩, fun b u q n _ => by rw [upd_ne (hx b n)]; exact n, fun b u q _ => ?_,
    fun b xs q => by rw [upd_ne (hm b _ q fun z => z)]; exact q, fun b u xs q => by rw [upd_ne (hm b _ q fun z => z)]; exact q, fun b ps q => ⟨#[], by rw [upd_ne (hm b _ q fun z => z), q]; simp⟩⟩
  by_cases hbe : b = e
  · subst hbe; exact heo
  · exact ⟨u, k b u hbe q⟩
theorem Un.mono (u : Un fs ex H H1 h h1) (hs : ∀ b ∈ fs, b ∈ fs') (hx : ∀ b ∈ ex, b ∈ ex') : Un fs' ex' H H1 h h1 :=
  ⟨fun b ob q n hb he => u.keep b ob q n (fun z => hb (hs b z)) fun z => he (hx b z), fun _ _ q n _ he => u.any q n fun z => he (hx _ z), fun b ob q n he => u.free b ob q n fun z => he (hx b z), fun b ob q he => u.there b ob q fun z => he (hx b z), u.tups, u.frzs, u.tbls⟩
end
def trk (h : Heap) (H : Hp) : List Addr := (List.range h.objs.size).filter fun a => (H a).isSome
def hidT (h : Heap) (H : Hp) : Heap := PySem.W.hideAll h (trk h H)
theorem hidT_size (h : Heap) (H : Hp) : (hidT h H).objs.size = h.objs.size := PySem.W.hideAll_size _ _
theorem hidT_get {h : Heap} {H : Hp} {b : Addr} {o : Obj} (e : h.get? b = some o) (n : H b = none) : (hidT h H).get? b = some o :=
  PySem.W.hideAll_get _ e fun hm => by
    have q : (H b).isSome = true := (List.mem_filter.mp hm).2
    rw [n] at q; simp at q
theorem of_hidT {h : Heap} {H : Hp} {b : Addr} {o : Obj} (e : (hidT h H).get? b = some o) : h.get? b = some o ∧ H b = none := by
  have e' : h.get? b = some o := PySem.W.of_hideAll (trk h H) e
  refine ⟨e', ?_⟩
  cases q : H b with
  | none => rfl
  | some x =>
    have hm : b ∈ trk h H := List.mem_filter.mpr ⟨List.mem_range.mpr (Heap.lt_size e'), by simp [q]⟩
    have z : (hidT h H).get? b = none := PySem.W.hideAll_none (trk h H) hm
    rw [z] at e; cases e
def allNews (g h : Heap) (L : Addr) : List (Addr × Obj) := (List.range h.objs.size).filterMap fun a => if a = L ∨ (g.get? a).isSome = true then none else (h.get? a).map fun o => (a, o)
def rest (g h : Heap) (L d : Addr) : List (Addr × Obj) := (allNews g h L).filter fun p => decide (p.1 ≠ d)
end L2
namespace L2
open PySem PySem.Spec PyProof.Rows
structure Mod (K : PySem.W.Frag) (mg : Str → Option Value) (base : Heap) : Prop where
  kin : K.In base
  glob : base.Ns mainGlobals mg
  blt : ∃ mb, base.Ns builtinsNs mb ∧ ∀ x : Str, x ≠ "__name__" → mb x = bootBuiltins x
  nolimit : base.NoLimit
structure Cx where
  prog : Program
  w : World
  K : PySem.W.Frag
  mg : Str → Option Value
  base : Heap
  A : Around
  N : List Str
  s₀ : Shared
  H₀ : Hp
  env : Env
  outer : List Env
  stack : List Env
  ex : List Addr
  fn : Str → Bool
  calm : Bool
  pn : List (Addr × Obj)
  xe : Value → Shared → Prop
def frs (l : List Env) : List Addr := l.filterMap (·.frame)
abbrev Cx.fs (X : Cx) : List Addr := frs X.outer
def Vis (sc : Scope) (x : Str) : Prop := sc.names.lookup x = some .local ∨ sc.names.lookup x = some .cell ∨ sc.names.lookup x = some .free
def Loc (sc : Scope) (x : Str) : Prop := sc.names.lookup x = some .local ∨ sc.names.lookup x = some .cell
def Look (env : Env) (h : Heap) (m : Str → Option Value) (x : Str) (u : Value) : Prop :=
  (env.kindOf x = some .local ∧ m x = some u) ∨ ((env.kindOf x = some .cell ∨ env.kindOf x = some .free) ∧ ∃ c, env.cells.lookup x = some c ∧ h.IsCell c (some u))
structure Cx.Ok (X : Cx) : Prop where
  mod : Mod X.K X.mg X.base
  kind : X.env.scope.kind = .function
  glob : X.env.globals = mainGlobals
  blt : X.env.builtins = builtinsNs
  above : X.s₀.heap.objs.size ≤ X.env.locals
  inj : ∀ x y c, X.env.cells.lookup x = some c → X.env.cells.lookup y = some c → x = y
  has : ∀ x, (X.env.kindOf x = some .cell ∨ X.env.kindOf x = some .free) → ∃ c, X.env.cells.lookup x = some c
  cab : ∀ x c, X.fn x = true → X.env.cells.lookup x = some c → X.s₀.heap.objs.size ≤ c
  hd : X.calm = true → X.A.handled = none
  frames : X.A.frames = some X.stack
  stk : X.stack = X.outer ∨ (X.stack = X.env :: X.outer ∧ X.env.frame = some X.env.locals)
  exf : ∀ b ∈ X.ex, b ≠ X.env.locals ∧ ∀ x c, X.env.cells.lookup x = some c → c ≠ b
  bs : ∀ b o, X.base.get? b = some o → X.s₀.heap.get? b = some o ∧ X.H₀ b = none
  bsz : X.base.objs.size ≤ X.s₀.heap.objs.size
  noex : ∀ b o, X.base.get? b = some o → b ∉ X.ex
  exfs : ∀ b ∈ X.ex, b ∉ X.fs
  funs : X.s₀.heap.FunFrames X.base X.outer
  frf : ∀ b ∈ X.fs, X.H₀ b = none
structure Inv (X : Cx) (pins : List (Addr × Obj)) (σ : List (Option V)) (H : Hp) (s : Shared) : Prop where
  ok : X.Ok
  os : s.os = X.s₀.os
  bare : AllBare s.gens
  base : Un X.fs X.ex X.H₀ H X.s₀.heap s.heap
  loc : ∃ m, s.heap.Ns X.env.locals m ∧ ∀ (i : Nat) (x : Str) (v : V), X.N[i]? = some x → σ[i]? = some (some v) → Vis X.env.scope x → ∃ u, RelV v u ∧ Look X.env s.heap m x u
  cell : ∀ x c, X.env.cells.lookup x = some c → ∃ v, s.heap.IsCell c v
  free : H X.env.locals = none
  freeC : ∀ x c, X.env.cells.lookup x = some c → H c = none
  pin : ∀ p ∈ X.pn ++ pins, s.heap.get? p.1 = some p.2 ∧ H p.1 = none ∧ p.1 ≠ X.env.locals ∧ p.1 ∉ X.fs ∧ ∀ v, p.2.data ≠ .cell v
  hok : HOk X.prog X.w H s.heap
  len : σ.length = X.N.length
section
variable {X : Cx} {pins : List (Addr × Obj)} {σ : List (Option V)} {H H' : Hp} {s : Shared} {h' : Heap}
theorem Cx.Ok.nofr (ok : X.Ok) {b : Addr} {o : Obj} (e : X.base.get? b = some o) : b ∉ X.fs := fun hb => by
  have := (ok.funs.mem hb).1
  rw [e] at this; cases this
theorem Inv.bs (I : Inv X pins σ H s) : ∀ b o, X.base.get? b = some o → s.heap.get? b = some o ∧ H b = none := fun b o e =>
  ⟨I.base.keep b o (I.ok.bs b o e).1 (I.ok.bs b o e).2 (I.ok.nofr e) (I.ok.noex b o e), I.base.free b o (I.ok.bs b o e).1 (I.ok.bs b o e).2 (I.ok.noex b o e)⟩
theorem Inv.bk (I : Inv X pins σ H s) : ∀ b o, X.base.get? b = some o → s.heap.get? b = some o := fun b o e => (I.bs b o e).1
theorem Inv.mod (I : Inv X pins σ H s) : Mod X.K X.mg X.base := I.ok.mod
theorem Inv.kIn (I : Inv X pins σ H s) : X.K.In s.heap := I.ok.mod.kin.keeps I.bk
theorem Inv.nolimit (I : Inv X pins σ H s) : s.heap.NoLimit := I.ok.mod.nolimit.keeps I.bk
theorem Inv.fr (I : Inv X pins σ H s) : ∃ m, Fr X.base X.env.locals s.heap m :=
  let ⟨m, hn, _⟩ := I.loc
  ⟨m, hn, I.bk, Nat.le_trans I.ok.bsz I.ok.above⟩
theorem Inv.lt (I : Inv X pins σ H s) : X.env.locals < s.heap.objs.size := let ⟨_, hn, _⟩ := I.loc; hn.lt
theorem Inv.sz (I : Inv X pins σ H s) : X.s₀.heap.objs.size ≤ s.heap.objs.size := Nat.le_trans I.ok.above (Nat.le_of_lt I.lt)
theorem Inv.nofs (I : Inv X pins σ H s) {a : Addr} (h : s.heap.objs.size ≤ a) : a ∉ X.fs := fun hb => by
  obtain ⟨_, o, ho, _⟩ := I.ok.funs.mem hb
  exact absurd (Nat.lt_of_lt_of_le (Heap.lt_size ho) (Nat.le_trans I.sz h)) (Nat.lt_irrefl _)
theorem Inv.cne (I : Inv X pins σ H s) : ∀ x c, X.env.cells.lookup x = some c → c ≠ X.env.locals := fun x c e z => by
  obtain ⟨v, o, ho, hd⟩ := I.cell x c e
  obtain ⟨m, ⟨o', es, ep, ho', hd', _⟩, _⟩ := I.loc
  rw [z, ho'] at ho; cases ho; rw [hd'] at hd; cases hd
theorem Inv.funs (I : Inv X pins σ H s) : s.heap.FunFrames X.base X.outer := by
  have all : ∀ (l : List Env), (∀ b ∈ frs l, b ∈ X.fs) → X.s₀.heap.FunFrames X.base l → s.heap.FunFrames X.base l := by
    intro l
    induction l with
    | nil => intro _ _; trivial
    | cons env r ih =>
      intro hs hl
      obtain ⟨hk, ⟨L, o, hf, hn, ho, hd⟩, hr⟩ := hl
      have hL : L ∈ X.fs := hs L (by unfold frs; rw [List.filterMap_cons, hf]; exact List.mem_cons_self)
      obtain ⟨sl, e⟩ := I.base.slot L o ho (I.ok.frf L hL) hL fun z => I.ok.exfs L z hL
      exact ⟨hk, ⟨L, _, hf, hn, e, hd⟩, ih (fun b hb => hs b (by unfold frs; rw [List.filterMap_cons, hf]; exact List.mem_cons_of_mem _ hb)) hr⟩
  exact all X.outer (fun _ hb => hb) I.ok.funs
theorem Inv.stack (I : Inv X pins σ H s) : s.heap.FunFrames X.base X.stack := by
  rcases I.ok.stk with e | ⟨e, hf⟩
  · rw [e]; exact I.funs
  · rw [e]
    obtain ⟨m, hn, _⟩ := I.loc
    refine .cons (by rw [I.ok.kind]; decide) hf hn ?_ I.funs
    exact Heap.get?_none_of_le (Nat.le_trans I.ok.bsz I.ok.above)
theorem Inv.stkSub (I : Inv X pins σ H s) : ∀ b ∈ frs X.stack, b ∈ X.env.locals :: X.fs := fun b hb => by
  rcases I.ok.stk with e | ⟨e, hf⟩
  · rw [e] at hb; exact List.mem_cons_of_mem _ hb
  · rw [e] at hb
    unfold frs at hb
    rw [List.filterMap_cons, hf] at hb
    exact hb
theorem Inv.stkFree (I : Inv X pins σ H s) : ∀ b ∈ frs X.stack, H b = none := fun b hb => by
  rcases List.mem_cons.mp (I.stkSub b hb) with e | hb
  · rw [e]; exact I.free
  · obtain ⟨_, o, ho, _⟩ := I.ok.funs.mem hb
    exact I.base.free b o ho (I.ok.frf b hb) fun z => I.ok.exfs b z hb
theorem Inv.step {g' : Array GenState} {t' : Nat} {d' : Drawn} {ch : List Addr} (I : Inv X pins σ H s)
    (hch : ∀ b ∈ ch, (b ∈ X.ex ∨ X.s₀.heap.objs.size ≤ b) ∧ b ≠ X.env.locals ∧ (∀ x c, X.env.cells.lookup x = some c → c ≠ b) ∧ ∀ p ∈ X.pn ++ pins, p.1 ≠ b)
    (keep : ∀ b o, b ≠ X.env.locals → b ∉ X.fs → b ∉ ch → s.heap.get? b = some o → H b = none → h'.get? b = some o)
    (slot : ∀ b o, b ≠ X.env.locals → b ∈ X.fs → b ∉ ch → s.heap.get? b = some o → H b = none → ∃ sl, h'.get? b = some { o with slots := sl }) (free : ∀ b o, b ∉ ch → s.heap.get? b = some o → H b = none → H' b = none)
    (there : ∀ b o, b ∉ ch → s.heap.get? b = some o → ∃ o', h'.get? b = some o')
    (tups : ∀ b xs, H b = some (.tup xs) → H' b = some (.tup xs)) (frzs : ∀ b o u, H b = some (.frz o u) → H' b = some (.frz o u)) (tbls : ∀ b ps, H b = some (.tbl ps) → ∃ more, H' b = some (.tbl (ps ++ more)))
    (ns : ∀ m, s.heap.Ns X.env.locals m → h'.Ns X.env.locals m) (hok : HOk X.prog X.w H' h') (hg : AllBare g') :
    Inv X pins σ H' { s with heap := h', gens := g', drawn := d', toks := t' } := by
  have neL : ∀ b o, X.s₀.heap.get? b = some o → b ≠ X.env.locals := fun b o e => Nat.ne_of_lt (Nat.lt_of_lt_of_le (Heap.lt_size e) I.ok.above)
  have neC : ∀ b o, X.s₀.heap.get? b = some o → b ∉ X.ex → b ∉ ch := fun b o e hx hb => by
    rcases (hch b hb).1 with z | z
    · exact hx z
    · exact absurd (Nat.lt_of_lt_of_le (Heap.lt_size e) z) (Nat.lt_irrefl _)
  have cellK : ∀ x c, X.env.cells.lookup x = some c → ∀ v, s.heap.IsCell c v → h'.IsCell c v := fun x c e v ⟨o, ho, hd⟩ => by
    have nch : c ∉ ch := fun z => (hch c z).2.2.1 x c e rfl
    by_cases hc : c ∈ X.fs
    · obtain ⟨sl, q⟩ := slot c o (I.cne x c e) hc nch ho (I.freeC x c e)
      exact ⟨_, q, hd⟩
    · exact ⟨o, keep c o (I.cne x c e) hc nch ho (I.freeC x c e), hd⟩
  refine ⟨I.ok, I.os, hg, ⟨fun b o e n hb hx => ?_, fun b o e n hb hx => ?_, fun b o e n hx => ?_, fun b o e hx => ?_, fun b xs e => tups b xs (I.base.tups b xs e), fun b o xs e => frzs b o xs (I.base.frzs b o xs e), fun b ps e => ?_⟩, ?_, fun x c e => ?_, ?_, fun x c e => ?_, fun p hp => ?_, hok, I.len⟩
  · exact keep b o (neL b o e) hb (neC b o e hx) (I.base.keep b o e n hb hx) (I.base.free b o e n hx)
  · obtain ⟨sl, e1⟩ := I.base.slot b o e n hb hx
    obtain ⟨sl', e2⟩ := slot b _ (neL b o e) hb (neC b o e hx) e1 (I.base.free b o e n hx)
    exact ⟨sl', e2⟩
  · obtain ⟨o', e1⟩ := I.base.there b o e hx
    exact free b o' (neC b o e hx) e1 (I.base.free b o e n hx)
  · obtain ⟨o', e1⟩ := I.base.there b o e hx
    exact there b o' (neC b o e hx) e1
  · obtain ⟨m1, e1⟩ := I.base.tbls b ps e
    obtain ⟨m2, e2⟩ := tbls b _ e1
    exact ⟨m1 ++ m2, by rw [e2, Array.append_assoc]⟩
  · obtain ⟨m, hn, hl⟩ := I.loc
    refine ⟨m, ns m hn, fun i x v e1 e2 e3 => ?_⟩
    obtain ⟨u, r, l⟩ := hl i x v e1 e2 e3
    refine ⟨u, r, ?_⟩
    rcases l with l | ⟨k, c, e, z⟩
    · exact .inl l
    · exact .inr ⟨k, c, e, cellK x c e _ z⟩
  · obtain ⟨v, z⟩ := I.cell x c e
    exact ⟨v, cellK x c e v z⟩
  · obtain ⟨m, ⟨o, _, _, ho, _⟩, _⟩ := I.loc
    exact free _ o (fun z => (hch _ z).2.1 rfl) ho I.free
  · obtain ⟨v, o, ho, hd⟩ := I.cell x c e
    exact free c o (fun z => (hch c z).2.2.1 x c e rfl) ho (I.freeC x c e)
  · obtain ⟨e, n, ne, nf, d⟩ := I.pin p hp
    have nch : p.1 ∉ ch := fun z => (hch p.1 z).2.2.2 p hp rfl
    exact ⟨keep p.1 p.2 ne nf nch e n, free p.1 p.2 nch e n, ne, nf, d⟩
theorem Inv.un {t' : Nat} (I : Inv X pins σ H s) (u : Un X.fs [] H H' s.heap h') (hok : HOk X.prog X.w H' h') : Inv X pins σ H' { s with heap := h', toks := t' } := by
  obtain ⟨m, ⟨o, es, ep, ho, r⟩, _⟩ := id I.loc
  obtain ⟨sl, hL⟩ := u.any ho I.free (by simp)
  exact I.step (g' := s.gens) (d' := s.drawn) (ch := []) (fun _ z => nomatch z) (fun b o _ hb _ e n => u.keep b o e n hb (by simp)) (fun b o _ hb _ e n => u.slot b o e n hb (by simp)) (fun b o _ e n => u.free b o e n (by simp)) (fun b o _ e => u.there b o e (by simp)) u.tups u.frzs u.tbls (fun m' hm => by
    obtain ⟨o', es', ep', ho', r'⟩ := hm
    rw [ho] at ho'; cases ho'
    exact ⟨_, es', ep', hL, r'⟩) hok I.bare
theorem Inv.call {g' : Array GenState} {t' : Nat} {d' : Drawn} {ch : List Addr} (I : Inv X pins σ H s) (u : Un (frs X.stack) ch H H' s.heap h') (hok : HOk X.prog X.w H' h') (hg : AllBare g')
    (hch : ∀ b ∈ ch, (b ∈ X.ex ∨ X.s₀.heap.objs.size ≤ b) ∧ b ≠ X.env.locals ∧ (∀ x c, X.env.cells.lookup x = some c → c ≠ b) ∧ ∀ p ∈ X.pn ++ pins, p.1 ≠ b) :
    Inv X pins σ H' { s with heap := h', gens := g', drawn := d', toks := t' } := by
  obtain ⟨m, ⟨o, es, ep, ho, r⟩, _⟩ := id I.loc
  obtain ⟨sl, hL⟩ := u.any ho I.free fun z => (hch _ z).2.1 rfl
  exact I.step (ch := ch) hch (fun b o hL hb hc e n => u.keep b o e n (fun z => (List.mem_cons.mp (I.stkSub b z)).elim hL hb) hc) (fun b o _ _ hc e n => u.any e n hc) (fun b o hc e n => u.free b o e n hc) (fun b o hc e => u.there b o e hc) u.tups u.frzs u.tbls (fun m' hm => by
    obtain ⟨o', es', ep', ho', r'⟩ := hm
    rw [ho] at ho'; cases ho'
    exact ⟨_, es', ep', hL, r'⟩) hok hg
theorem Inv.turned {t' : Nat} {it : Addr} (I : Inv X pins σ H s) (k : ∀ b o, b ≠ it → s.heap.get? b = some o → h'.get? b = some o) (hn : H it = none) (hL : it ≠ X.env.locals)
    (h1 : it ∈ X.ex ∨ X.s₀.heap.objs.size ≤ it) (h2 : ∀ x c, X.env.cells.lookup x = some c → c ≠ it) (h3 : ∀ p ∈ X.pn ++ pins, p.1 ≠ it) : Inv X pins σ H { s with heap := h', toks := t' } := by
  have nit : ∀ b u, H b = some u → b ≠ it := fun b u e z => by rw [z, hn] at e; cases e
  refine I.step (g' := s.gens) (d' := s.drawn) (ch := [it]) (fun b hb => ?_) (fun b o _ _ hc e _ => k b o (fun z => hc (by simp [z])) e) (fun b o _ _ hc e _ => ⟨o.slots, k b o (fun z => hc (by simp [z])) e⟩) (fun _ _ _ _ n => n)
    (fun b o hc e => ⟨o, k b o (fun z => hc (by simp [z])) e⟩) (fun _ _ e => e) (fun _ _ _ e => e) (fun b ps e => ⟨#[], by rw [e]; simp⟩) (fun m hm => ?_) (fun b u e => ?_) I.bare
  · have e : b = it := by simpa using hb
    subst e
    exact ⟨h1, hL, h2, h3⟩
  · obtain ⟨o, es, ep, ho, r⟩ := hm
    exact ⟨o, es, ep, k _ o (Ne.symm hL) ho, r⟩
  · refine (I.hok b u e).stay (fun c v hc q => k c v ?_ q) (fun _ q => q) fun _ _ q => q
    rcases hc with z | z
    · rw [z]; exact nit b u e
    · exact nit c _ z
theorem Inv.tok (I : Inv X pins σ H s) (t : Nat) : Inv X pins σ H { s with toks := t } := I.un (h' := s.heap) (t' := t) Un.refl I.hok
theorem Inv.kept {t' : Nat} (I : Inv X pins σ H s) (k : ∀ b u, s.heap.get? b = some u → h'.get? b = some u) : Inv X pins σ H { s with heap := h', toks := t' } := I.un (Un.kept k) (I.hok.kept k)
theorem Inv.laid {a : Addr} {o : HO} {t' : Nat} (I : Inv X pins σ H s) (k : ∀ b u, s.heap.get? b = some u → h'.get? b = some u) (hp : s.heap.objs.size ≤ a) (new : ObjOk X.prog X.w (upd H a o) h' a o) :
    Inv X pins σ (upd H a o) { s with heap := h', toks := t' } := I.un (Un.laid k hp (I.hok.fresh hp)) (I.hok.laid k hp new)
theorem Inv.write {x e : Addr} {o : HO} {t' : Nat} (I : Inv X pins σ H s) (mu : Mut (H x)) (he : e = x ∨ H e = some (.own x)) (k : ∀ b u, b ≠ e → s.heap.get? b = some u → h'.get? b = some u) (heo : ∃ u, h'.get? e = some u)
    (new : ObjOk X.prog X.w (upd H x o) h' x o) : Inv X pins σ (upd H x o) { s with heap := h', toks := t' } := I.un (Un.write mu he k heo) (I.hok.write mu he k heo new)
theorem Inv.weak {σ' : List (Option V)} (I : Inv X pins σ H s) (hl : σ'.length = σ.length) (w : ∀ (i : Nat) v, σ'[i]? = some (some v) → σ[i]? = some (some v)) : Inv X pins σ' H s :=
  ⟨I.ok, I.os, I.bare, I.base, let ⟨m, hn, hl'⟩ := I.loc; ⟨m, hn, fun i x v e1 e2 e3 => hl' i x v e1 (w i v e2) e3⟩, I.cell, I.free, I.freeC, I.pin, I.hok, hl.trans I.len⟩
theorem Inv.pins_of {pins' : List (Addr × Obj)} (I : Inv X pins σ H s) (h : ∀ p ∈ pins', s.heap.get? p.1 = some p.2 ∧ H p.1 = none ∧ p.1 ≠ X.env.locals ∧ p.1 ∉ X.fs ∧ ∀ v, p.2.data ≠ .cell v) : Inv X pins' σ H s :=
  ⟨I.ok, I.os, I.bare, I.base, I.loc, I.cell, I.free, I.freeC, fun p hp => (List.mem_append.mp hp).elim (fun z => I.pin p (List.mem_append_left _ z)) (h p), I.hok, I.len⟩
theorem nodup_ix {N : List Str} (hN : N.Nodup) {i j : Nat} {x : Str} (a : N[i]? = some x) (b : N[j]? = some x) : i = j := by
  obtain ⟨h1, e1⟩ := List.getElem?_eq_some_iff.mp a
  obtain ⟨h2, e2⟩ := List.getElem?_eq_some_iff.mp b
  exact (List.getElem_inj hN).mp (e1.trans e2.symm)
theorem store_ok2 {M : Model} {A : Around} {E : Value → Shared → Prop} {i : Nat} {x : Str} {v : V} {u : Value} {Q : Unit → Shared → Prop} (I : Inv X pins σ H s) (hN : X.N.Nodup) (hi : X.N[i]? = some x) (hx : Loc X.env.scope x) (r : RelV v u)
    (h : ∀ s', Inv X pins (σ.set i (some v)) H s' → (∃ a, Heap.SameBut a s.heap s'.heap ∧ (a = X.env.locals ∨ X.env.cells.lookup x = some a)) → Q () s') (hf : X.fn x = true ∨ X.env.scope.names.lookup x = some .local := by first | exact .inl rfl | exact .inr rfl | assumption) : wpAny M A (storeName X.env x u) Q E s := by
  obtain ⟨m, hn, hl⟩ := id I.loc
  have hcls : (X.env.scope.kind == .class || (X.env.scope.kind == .module && X.env.locals != X.env.globals)) = false := by rw [I.ok.kind]; rfl
  have hiσ : i < σ.length := by rw [I.len]; exact (List.getElem?_eq_some_iff.mp hi).1
  have cne := I.cne
  have tracked : ∀ {a : Addr} {h' : Heap}, (∃ o, s.heap.get? a = some o ∧ H a = none) → Heap.SameBut a s.heap h' → HOk X.prog X.w H h' := fun {a h'} ha hs b ob e => by
    obtain ⟨_, _, hfree⟩ := ha
    refine (I.hok b ob e).stay (fun c w' hc q => (hs.2 c ?_).trans q) (fun _ q => q) fun _ _ q => q
    rintro rfl
    rcases hc with rfl | hc
    · rw [hfree] at e; cases e
    · rw [hfree] at hc; cases hc
  rcases hx with hk | hk
  · refine wpAny_storeName_local hk hn (fun h' hn' hs => ?_) hcls
    obtain ⟨oL, _, _, hoL, _⟩ := id hn
    refine h _ ⟨I.ok, I.os, I.bare, ⟨fun b o e n hb hx => ?_, fun b o e n hb hx => ?_, I.base.free, fun b o e hx => ?_, I.base.tups, I.base.frzs, I.base.tbls⟩, ⟨_, hn', fun j y v' e1 e2 e3 => ?_⟩, fun y c e => ?_, I.free, I.freeC, fun p hp => ?_, tracked ⟨oL, hoL, I.free⟩ hs, by simpa using I.len⟩ ⟨_, hs, .inl rfl⟩
    · exact (hs.2 b (Nat.ne_of_lt (Nat.lt_of_lt_of_le (Heap.lt_size e) I.ok.above))).trans (I.base.keep b o e n hb hx)
    · obtain ⟨sl, e1⟩ := I.base.slot b o e n hb hx
      exact ⟨sl, (hs.2 b (Nat.ne_of_lt (Nat.lt_of_lt_of_le (Heap.lt_size e) I.ok.above))).trans e1⟩
    · obtain ⟨o', e1⟩ := I.base.there b o e hx
      exact ⟨o', (hs.2 b (Nat.ne_of_lt (Nat.lt_of_lt_of_le (Heap.lt_size e) I.ok.above))).trans e1⟩
    · by_cases hj : j = i
      · subst hj
        rw [hi] at e1; cases e1
        rw [List.getElem?_set_self hiσ] at e2
        cases e2
        exact ⟨u, r, .inl ⟨hk, by simp⟩⟩
      · rw [List.getElem?_set_ne (Ne.symm hj)] at e2
        obtain ⟨u', r', q⟩ := hl j y v' e1 e2 e3
        refine ⟨u', r', ?_⟩
        rcases q with ⟨k, e⟩ | ⟨k, c, e, z⟩
        · refine .inl ⟨k, ?_⟩
          have : y ≠ x := fun e => hj (nodup_ix hN e1 (e ▸ hi))
          simp [this, e]
        · exact .inr ⟨k, c, e, z.sameBut hs (cne y c e)⟩
    · obtain ⟨w', z⟩ := I.cell y c e
      exact ⟨w', z.sameBut hs (cne y c e)⟩
    · obtain ⟨e, n, ne, nf, d⟩ := I.pin p hp
      exact ⟨(hs.2 p.1 ne).trans e, n, ne, nf, d⟩
  · have hfn : X.fn x = true := by
      rcases hf with z | z
      · exact z
      · rw [z] at hk; cases hk
    obtain ⟨c, hc⟩ := I.ok.has x (.inl hk)
    obtain ⟨w', z⟩ := I.cell x c hc
    refine wpAny_storeName_cell I.ok.kind hk hc z (fun h' hc' hs => ?_)
    obtain ⟨oc, hoc, hocd⟩ := id z
    refine h { s with heap := h' } ⟨I.ok, I.os, I.bare, ⟨fun b o e n hb hx => ?_, fun b o e n hb hx => ?_, I.base.free, fun b o e hx => ?_, I.base.tups, I.base.frzs, I.base.tbls⟩, ⟨m, hn.sameBut hs (Ne.symm (cne x c hc)), fun j y v' e1 e2 e3 => ?_⟩, fun y c' e => ?_, I.free, I.freeC, fun p hp => ?_, tracked ⟨oc, hoc, I.freeC x c hc⟩ hs, by simpa using I.len⟩ ⟨c, hs, .inr hc⟩
    · exact (hs.2 b (Nat.ne_of_lt (Nat.lt_of_lt_of_le (Heap.lt_size e) (I.ok.cab x c hfn hc)))).trans (I.base.keep b o e n hb hx)
    · obtain ⟨sl, e1⟩ := I.base.slot b o e n hb hx
      exact ⟨sl, (hs.2 b (Nat.ne_of_lt (Nat.lt_of_lt_of_le (Heap.lt_size e) (I.ok.cab x c hfn hc)))).trans e1⟩
    · obtain ⟨o', e1⟩ := I.base.there b o e hx
      exact ⟨o', (hs.2 b (Nat.ne_of_lt (Nat.lt_of_lt_of_le (Heap.lt_size e) (I.ok.cab x c hfn hc)))).trans e1⟩
    · by_cases hj : j = i
      · subst hj
        rw [hi] at e1; cases e1
        rw [List.getElem?_set_self hiσ] at e2
        cases e2
        exact ⟨u, r, .inr ⟨.inl hk, c, hc, hc'⟩⟩
      · rw [List.getElem?_set_ne (Ne.symm hj)] at e2
        obtain ⟨u', r', q⟩ := hl j y v' e1 e2 e3
        refine ⟨u', r', ?_⟩
        rcases q with q | ⟨k, c', e, z'⟩
        · exact .inl q
        · refine .inr ⟨k, c', e, z'.sameBut hs ?_⟩
          rintro rfl
          exact hj (nodup_ix hN e1 (I.ok.inj _ _ _ e hc ▸ hi))
    · by_cases hcc : c' = c
      · subst hcc; exact ⟨_, hc'⟩
      · obtain ⟨w2, z2⟩ := I.cell y c' e
        exact ⟨w2, z2.sameBut hs hcc⟩
    · obtain ⟨e, n, ne, nf, d⟩ := I.pin p hp
      refine ⟨(hs.2 p.1 ?_).trans e, n, ne, nf, d⟩
      intro q
      rw [q, hoc] at e
      have q' : oc = p.2 := Option.some.inj e
      exact d w' (by rw [← q']; exact hocd)
theorem store_ok {M : Model} {A : Around} {E : Value → Shared → Prop} {i : Nat} {x : Str} {v : V} {u : Value} {Q : Unit → Shared → Prop} (I : Inv X pins σ H s) (hN : X.N.Nodup) (hi : X.N[i]? = some x) (hx : Loc X.env.scope x) (r : RelV v u)
    (h : ∀ s', Inv X pins (σ.set i (some v)) H s' → Q () s') (hf : X.fn x = true ∨ X.env.scope.names.lookup x = some .local := by first | exact .inl rfl | exact .inr rfl | assumption) : wpAny M A (storeName X.env x u) Q E s :=
  store_ok2 I hN hi hx r (fun s' I' _ => h s' I') hf
theorem Inv.call' {s' : Shared} {ch : List Addr} (I : Inv X pins σ H s) (ho : s'.os = s.os) (u : Un (frs X.stack) ch H H' s.heap s'.heap) (hok : HOk X.prog X.w H' s'.heap) (hg : AllBare s'.gens)
    (hch : ∀ b ∈ ch, (b ∈ X.ex ∨ X.s₀.heap.objs.size ≤ b) ∧ b ≠ X.env.locals ∧ (∀ x c, X.env.cells.lookup x = some c → c ≠ b) ∧ ∀ p ∈ X.pn ++ pins, p.1 ≠ b) : Inv X pins σ H' s' := by
  obtain ⟨h', g', d', t', o'⟩ := s'
  have e : o' = s.os := ho
  subst e
  exact I.call (g' := g') (t' := t') (d' := d') u hok hg hch
end
abbrev XK := Value → Option Addr → Hp → Prop
abbrev St := List (Option V)
abbrev VK := V → Hp → Prop
abbrev TE := St → Hp → VK → Prop
abbrev TT := St → Hp → (Bool → Hp → Prop) → Prop
abbrev TA := St → Hp → (List V → Hp → Prop) → Prop
structure Ends where
  nx : St → Hp → Prop
  rt : VK
  bk : St → Hp → Prop := fun _ _ => False
  ct : St → Hp → Prop := fun _ _ => False
abbrev TS := Ends → St → Hp → Prop
def EP (X : Cx) (pins : List (Addr × Obj)) (σ : St) (Q : VK) (u : Value) (s' : Shared) : Prop := ∃ v H', Inv X pins σ H' s' ∧ RelV v u ∧ Q v H'
def TP (X : Cx) (pins : List (Addr × Obj)) (σ : St) (Q : Bool → Hp → Prop) (b : Bool) (s' : Shared) : Prop := ∃ H', Inv X pins σ H' s' ∧ Q b H'
def AP (X : Cx) (pins : List (Addr × Obj)) (σ : St) (Q : List V → Hp → Prop) (us : List Value) (s' : Shared) : Prop := ∃ vs H', Inv X pins σ H' s' ∧ Vals vs us ∧ Q vs H'
def SP (X : Cx) (pins : List (Addr × Obj)) (D : Ends) (f : Flow) (s' : Shared) : Prop :=
  match f with
  | .next => ∃ σ' H', Inv X pins σ' H' s' ∧ D.nx σ' H'
  | .brk => ∃ σ' H', Inv X pins σ' H' s' ∧ D.bk σ' H'
  | .cont => ∃ σ' H', Inv X pins σ' H' s' ∧ D.ct σ' H'
  | .ret u => ∃ v σ' H', Inv X pins σ' H' s' ∧ RelV v u ∧ D.rt v H'
def PE (X : Cx) (e : Expr) (t : TE) : Prop :=
  ∀ (pins : List (Addr × Obj)) (s : Shared) (σ : St) (H : Hp) (Q : VK), Inv X pins σ H s → t σ H Q → wpAny (model X.prog X.w) X.A (eval e X.env) (EP X pins σ Q) X.xe s
def PT (X : Cx) (e : Expr) (t : TT) : Prop :=
  ∀ (pins : List (Addr × Obj)) (s : Shared) (σ : St) (H : Hp) (Q : Bool → Hp → Prop), Inv X pins σ H s → t σ H Q → wpAny (model X.prog X.w) X.A (isTrue e X.env (eval e X.env)) (TP X pins σ Q) X.xe s
def PW (X : Cx) (e : Expr) (t : TT) : Prop :=
  ∀ (whole : Sem Value) (pins : List (Addr × Obj)) (s : Shared) (σ : St) (H : Hp) (Q : Bool → Hp → Prop), Inv X pins σ H s → t σ H Q → wpAny (model X.prog X.w) X.A (isTrue e X.env whole) (TP X pins σ Q) X.xe s
theorem PW.pt {X : Cx} {e : Expr} {t : TT} (h : PW X e t) : PT X e t := h _
def PA (X : Cx) (es : List Expr) (t : TA) : Prop :=
  ∀ (pos : Pos) (pins : List (Addr × Obj)) (s : Shared) (σ : St) (H : Hp) (Q : List V → Hp → Prop), Inv X pins σ H s → t σ H Q → wpAny (model X.prog X.w) X.A (spliced (backTo pos (starEach es X.env))) (AP X pins σ Q) X.xe s
def PS (X : Cx) (st : Stmt) (t : TS) : Prop :=
  ∀ (pins : List (Addr × Obj)) (s : Shared) (σ : St) (H : Hp) (D : Ends), Inv X pins σ H s → t D σ H → wpAny (model X.prog X.w) X.A (exec st X.env) (SP X pins D) X.xe s
def PSs (X : Cx) (st : List Stmt) (t : TS) : Prop :=
  ∀ (pins : List (Addr × Obj)) (s : Shared) (σ : St) (H : Hp) (D : Ends), Inv X pins σ H s → t D σ H → wpAny (model X.prog X.w) X.A (execs st X.env) (SP X pins D) X.xe s
theorem thn {α : Type} {t : Sem α} {Q Q' : α → Shared → Prop} {M : Model} {A : Around} {E : Value → Shared → Prop} {s : Shared} (h : wpAny M A t Q E s) (hQ : ∀ a s, Q a s → Q' a s) : wpAny M A t Q' E s := wpAny_mono h hQ fun _ _ x => x
end L2
namespace L2
open PySem PySem.Spec PyProof.Rows
section
variable {X : Cx}
def tVar (i : Nat) : TE := fun σ H Q => ∃ v, σ[i]? = some (some v) ∧ Q v H
def tC (v : V) : TE := fun _ H Q => Q v H
theorem pe_var {i : Nat} {x : Str} {pos : Pos} (hN : X.N[i]? = some x) (hv : Vis X.env.scope x) (hd : (x == ("__debug__" : Str)) = false := by decide) (hcd : (x == ("__classdict__" : Str)) = false := by decide) : PE X (.Name x pos) (tVar i) := by
  intro pins s σ H Q I h
  obtain ⟨v, e, h⟩ := h
  obtain ⟨m, hn, hl⟩ := I.loc
  obtain ⟨u, r, l⟩ := hl i x v hN e hv
  have fin : EP X pins σ Q u s := ⟨v, H, I, r, h⟩
  rcases l with ⟨hk, hm⟩ | ⟨hk, c, hc, hcell⟩
  · exact wpAny_Name (wpAny_loadName_local I.ok.kind hk hn hm fin) hd
  · rcases hk with hk | hk
    · exact wpAny_Name (wpAny_loadName_cell I.ok.kind hk hc hcell fin) hd
    · exact wpAny_Name (wpAny_loadName_free I.ok.kind hk hc hcell fin hcd) hd
theorem pe_int {i j pos} : PE X (.Constant (.int i) j pos) (tC (.int i)) := fun _ _ _ H _ I h => wpAny_Constant_int ⟨.int i, H, I.tok _, ⟨_, rfl⟩, h⟩
theorem pe_bl {b j pos} : PE X (.Constant (.bool b) j pos) (tC (.bl b)) := fun _ _ _ H _ I h => Constant_bool ⟨.bl b, H, I, rfl, h⟩
theorem pe_non {j pos} : PE X (.Constant .none j pos) (tC .non) := fun _ _ _ H _ I h => Constant_none ⟨.non, H, I, rfl, h⟩
theorem pe_str {x j pos} : PE X (.Constant (.str x) j pos) (tC (.str x)) := fun _ _ _ H _ I h => Calls.Constant_str ⟨.str x, H, I.tok _, ⟨_, rfl⟩, h⟩
def Gl (X : Cx) (x : Str) : Prop := X.env.kindOf x = some .globalImplicit
theorem ld_glob {E : Value → Shared → Prop} {pins : List (Addr × Obj)} {s : Shared} {σ : St} {H : Hp} {x : Str} {u : Value} {pos : Pos} {Q : Value → Shared → Prop} (I : Inv X pins σ H s) (hg : Gl X x) (hm : X.mg x = some u) (h : Q u s)
    (hd : (x == ("__debug__" : Str)) = false := by decide) : wpAny (model X.prog X.w) X.A (eval (.Name x pos) X.env) Q E s :=
  Calls.Name_function_global I.ok.kind hg (Calls.loadGlobal_global (by rw [I.ok.glob]; exact I.mod.glob.keeps I.bk) hm h) hd
theorem ld_blt {E : Value → Shared → Prop} {pins : List (Addr × Obj)} {s : Shared} {σ : St} {H : Hp} {x : Str} {u : Value} {pos : Pos} {Q : Value → Shared → Prop} (I : Inv X pins σ H s) (hg : Gl X x) (hm : X.mg x = none) (hv : bootBuiltins x = some u) (h : Q u s)
    (hn : x ≠ "__name__" := by decide) (hd : (x == ("__debug__" : Str)) = false := by decide) : wpAny (model X.prog X.w) X.A (eval (.Name x pos) X.env) Q E s := by
  obtain ⟨mb, h1, h2⟩ := I.mod.blt
  exact Calls.Name_function_global I.ok.kind hg (Calls.loadGlobal_builtin (by rw [I.ok.glob]; exact I.mod.glob.keeps I.bk) hm (by rw [I.ok.blt]; exact h1.keeps I.bk) ((h2 x hn).trans hv) h) hd
theorem pe_glob {x : Str} {v : V} {u : Value} {pos : Pos} (hg : Gl X x) (hm : X.mg x = some u) (r : RelV v u) (hd : (x == ("__debug__" : Str)) = false := by decide) : PE X (.Name x pos) (tC v) :=
  fun _ _ _ H _ I h => ld_glob I hg hm ⟨v, H, I, r, h⟩ hd
theorem pe_bltn {x : Str} {v : V} {u : Value} {pos : Pos} (hg : Gl X x) (hm : X.mg x = none) (hv : bootBuiltins x = some u) (r : RelV v u) (hn : x ≠ "__name__" := by decide) (hd : (x == ("__debug__" : Str)) = false := by decide) : PE X (.Name x pos) (tC v) :=
  fun _ _ _ H _ I h => ld_blt I hg hm hv ⟨v, H, I, r, h⟩ hn hd
variable {a b : Expr} {ta tb : TE} {pos : Pos}
def PC (X : Cx) (op : CmpOp) (a b : Expr) (t : TE) : Prop :=
  ∀ (pins : List (Addr × Obj)) (s : Shared) (σ : St) (H : Hp) (Q : VK), Inv X pins σ H s → t σ H Q →
    wpAny (model X.prog X.w) X.A (eval a X.env) (fun v s₁ => wpAny (model X.prog X.w) X.A (eval b X.env) (fun u s₂ => wpAny (model X.prog X.w) X.A (compareOp op v u) (EP X pins σ Q) X.xe s₂) X.xe s₁) X.xe s
theorem nobehind (b : Expr) {op : CmpOp} (h : op ≠ .In) (h2 : op ≠ .NotIn) : behindInMarks op b = false := by
  have e1 : (op == CmpOp.In) = false := by cases op <;> first | rfl | exact absurd rfl h
  have e2 : (op == CmpOp.NotIn) = false := by cases op <;> first | rfl | exact absurd rfl h2
  cases b <;> simp [behindInMarks, e1, e2]
def tB (t : TE) : TT := fun σ H Q => t σ H fun x H1 => ∃ c, x = .bl c ∧ Q c H1
theorem pt_cmp {op : CmpOp} {t : TE} (h : PC X op a b t) (h1 : behindInMarks op b = false := by first | exact nobehind _ (by decide) (by decide) | rfl) : PT X (.Compare a [op] [b] pos) (tB t) := by
  intro pins s σ H Q I hw
  refine wpAny_isTrue_Compare1 (thn (h pins s σ H _ I hw) fun v s1 h1 => thn h1 fun u s2 h2 => thn h2 fun c s3 ⟨x, H1, I1, r1, q1⟩ => ?_) h1
  obtain ⟨d, rfl, q⟩ := q1
  cases r1
  exact wpAny_truthy_bool ⟨H1, I1, q⟩
theorem pt_val {e : Expr} {t : TE} (h : PE X e t) (he : ∀ whole, isTrue e X.env whole = (do let v ← whole; standAt e.pos; holding [v] (truthy v)) := by intro _; rfl) : PT X e (tB t) := by
  intro pins s σ H Q I hw
  refine isTrue_plain (thn (h pins s σ H _ I hw) fun v s1 ⟨x, H1, I1, r1, q1⟩ => ?_) (he _)
  obtain ⟨d, rfl, q⟩ := q1
  cases r1
  exact wpAny_truthy_bool ⟨H1, I1, q⟩
variable {tA tB' : TT} {rest : List Expr}
def tAnd (t u : TT) : TT := fun σ H Q => t σ H fun c H1 => if c = true then u σ H1 Q else Q false H1
def tOr (t u : TT) : TT := fun σ H Q => t σ H fun c H1 => if c = true then Q true H1 else u σ H1 Q
def tNot (t : TT) : TT := fun σ H Q => t σ H fun c H1 => Q (!c) H1
theorem pw_and1 (ha : PT X a tA) : PW X (.BoolOp .And [a] pos) tA := by
  intro wh pins s σ H Q I h
  refine isTrue_and (thn (ha pins s σ H Q I h) fun c s1 e => ?_)
  cases c with
  | true => exact isTrue_and_nil e
  | false => exact e
theorem pw_or1 (ha : PT X a tA) : PW X (.BoolOp .Or [a] pos) tA := by
  intro wh pins s σ H Q I h
  refine isTrue_or (thn (ha pins s σ H Q I h) fun c s1 e => ?_)
  cases c with
  | false => exact isTrue_or_nil e
  | true => exact e
theorem pw_and (ha : PT X a tA) (hb : PW X (.BoolOp .And (b :: rest) pos) tB') : PW X (.BoolOp .And (a :: b :: rest) pos) (tAnd tA tB') := by
  intro wh pins s σ H Q I h
  refine isTrue_and (thn (ha pins s σ H _ I h) fun c s1 ⟨H1, I1, q1⟩ => ?_)
  cases c with
  | true => exact hb wh pins s1 σ H1 Q I1 q1
  | false => exact ⟨H1, I1, q1⟩
theorem pw_or (ha : PT X a tA) (hb : PW X (.BoolOp .Or (b :: rest) pos) tB') : PW X (.BoolOp .Or (a :: b :: rest) pos) (tOr tA tB') := by
  intro wh pins s σ H Q I h
  refine isTrue_or (thn (ha pins s σ H _ I h) fun c s1 ⟨H1, I1, q1⟩ => ?_)
  cases c with
  | true => exact ⟨H1, I1, q1⟩
  | false => exact hb wh pins s1 σ H1 Q I1 q1
theorem pt_not (ha : PT X a tA) : PT X (.UnaryOp .Not a pos) (tNot tA) := by
  intro pins s σ H Q I h
  exact isTrue_not (ha pins s σ H (fun c H1 => Q (!c) H1) I h)
def tAndV (ta tb : TE) : TE := fun σ H Q => ta σ H fun x H1 => ∃ c, x = .bl c ∧ if c = true then tb σ H1 Q else Q (.bl false) H1
def tOrV (ta tb : TE) : TE := fun σ H Q => ta σ H fun x H1 => ∃ c, x = .bl c ∧ if c = true then Q (.bl true) H1 else tb σ H1 Q
def tNotV (ta : TE) : TE := fun σ H Q => ta σ H fun x H1 => ∃ c, x = .bl c ∧ Q (.bl (!c)) H1
theorem pe_one {op} {t : TE} (h : PE X a t) : PE X (.BoolOp op [a] pos) t := fun pins s σ H Q I hw => BoolOp_one (h pins s σ H Q I hw)
theorem pe_and (ha : PE X a ta) (hb : PE X (.BoolOp .And (b :: rest) pos) tb) : PE X (.BoolOp .And (a :: b :: rest) pos) (tAndV ta tb) := by
  intro pins s σ H Q I h
  refine BoolOp_and (thn (ha pins s σ H _ I h) fun v s1 ⟨x, H1, I1, r1, q1⟩ => ?_)
  obtain ⟨c, rfl, q1⟩ := q1
  cases r1
  refine wpAny_truthy_bool ?_
  cases c with
  | true => exact hb pins s1 σ H1 Q I1 q1
  | false => exact ⟨.bl false, H1, I1, rfl, q1⟩
def tIf (t : TT) (ta tb : TE) : TE := fun σ H Q => t σ H fun c H1 => if c = true then ta σ H1 Q else tb σ H1 Q
theorem pe_ifExp {c : Expr} (hc : PT X c tA) (ha : PE X a ta) (hb : PE X b tb) : PE X (.IfExp c a b pos) (tIf tA ta tb) := by
  intro pins s σ H Q I h
  refine wpAny_IfExp (thn (hc pins s σ H _ I h) fun d s1 ⟨H1, I1, q1⟩ => ?_)
  cases d with
  | true => exact ha pins s1 σ H1 Q I1 q1
  | false => exact hb pins s1 σ H1 Q I1 q1
end
end L2
namespace L2
open PySem PySem.Spec PyProof.Rows
def SqL (K : PySem.W.Frag) (H : Hp) (a : Addr) (xs : List V) : Prop :=
  Rd H a (.lst xs) ∨
    ∃ (o : Obj) (its : Array Value) (n : Nat), K.lookup a = some o ∧ o.cls = .type "list" ∧ o.dict = none ∧ o.data = .seq its n ∧ its.size ≤ sizeLine ∧ Vals xs its.toList
def SqT (K : PySem.W.Frag) (H : Hp) (a : Addr) (xs : List V) : Prop :=
  Rd H a (.tup xs) ∨
    ∃ (o : Obj) (its : Array Value) (n : Nat), K.lookup a = some o ∧ o.cls = .type "tuple" ∧ o.data = .seq its n ∧ its.size ≤ sizeLine ∧ Vals xs its.toList
def absV : Value → Option V
  | .none => some .non
  | .bool b => some (.bl b)
  | .int i _ => some (.int i)
  | .str x _ => some (.str x)
  | .bytes b _ => some (.byt b)
  | .float b _ => some (.flt b)
  | .ref a => some (.ref a)
  | .type n => some (.ty n)
  | _ => none
theorem RelV.abs {x : V} {u : Value} (r : RelV x u) : absV u = some x := by
  cases x with
  | non => cases r; rfl
  | bl _ => cases r; rfl
  | int _ => obtain ⟨t, rfl⟩ := r; rfl
  | str _ => obtain ⟨t, rfl⟩ := r; rfl
  | byt _ => obtain ⟨t, rfl⟩ := r; rfl
  | flt _ => obtain ⟨t, rfl⟩ := r; rfl
  | ref _ => cases r; rfl
  | ty _ => cases r; rfl
theorem RelV.inj {x y : V} {u : Value} (r : RelV x u) (q : RelV y u) : x = y := Option.some.inj (r.abs.symm.trans q.abs)
theorem Vals.inj : ∀ {xs ys : List V} {us : List Value}, Vals xs us → Vals ys us → xs = ys
  | _, _, _, .nil, .nil => rfl
  | _, _, _, .cons r t, .cons r' t' => by rw [r.inj r', Vals.inj t t']
section
variable {X : Cx} {pins : List (Addr × Obj)} {σ : St} {H : Hp} {s : Shared} {a : Addr} {xs ys : List V}
theorem SqL.of {K : PySem.W.Frag} (h : H a = some (.lst xs)) : SqL K H a xs := .inl (.inl h)
theorem SqT.of {K : PySem.W.Frag} (h : H a = some (.tup xs)) : SqT K H a xs := .inl (.inl h)
theorem Inv.list (I : Inv X pins σ H s) (h : SqL X.K H a xs) : ∃ its : List Value, Vals xs its ∧ PlainL s.heap a its.toArray ∧ xs.length ≤ sizeLine := by
  rcases h with h | ⟨o, its, n, hk, hc, hd, hs, hz, r⟩
  · obtain ⟨z, its, n, r, e⟩ := h.ok I.hok
    exact ⟨its, r, ⟨_, n, e, rfl, rfl, rfl⟩, z⟩
  · refine ⟨its.toList, r, ⟨o, n, I.kIn a o hk, hc, hd, by simpa using hs⟩, ?_⟩
    have e := r.length
    simp only [Array.length_toList] at e
    omega
theorem Inv.tuple (I : Inv X pins σ H s) (h : SqT X.K H a xs) : ∃ its : List Value, Vals xs its ∧ IsTup s.heap a its.toArray ∧ xs.length ≤ sizeLine := by
  rcases h with h | ⟨o, its, n, hk, hc, hs, hz, r⟩
  · obtain ⟨z, its, r, p⟩ := h.ok I.hok
    exact ⟨its, r, p, z⟩
  · refine ⟨its.toList, r, ⟨o, I.kIn a o hk, hc, n, by simpa using hs⟩, ?_⟩
    have e := r.length
    simp only [Array.length_toList] at e
    omega
theorem Inv.list_inj (I : Inv X pins σ H s) (h : SqL X.K H a xs) (h' : SqL X.K H a ys) : xs = ys := by
  obtain ⟨its, r, ⟨o, n, e, _, _, d⟩, _⟩ := I.list h
  obtain ⟨its', r', ⟨o', n', e', _, _, d'⟩, _⟩ := I.list h'
  rw [e] at e'; cases e'
  rw [d] at d'
  injection d' with d1 _
  have : its = its' := by simpa using congrArg Array.toList d1
  subst this
  exact r.inj r'
theorem Inv.tuple_inj (I : Inv X pins σ H s) (h : SqT X.K H a xs) (h' : SqT X.K H a ys) : xs = ys := by
  obtain ⟨its, r, ⟨o, e, _, n, d⟩, _⟩ := I.tuple h
  obtain ⟨its', r', ⟨o', e', _, n', d'⟩, _⟩ := I.tuple h'
  rw [e] at e'; cases e'
  rw [d] at d'
  injection d' with d1 _
  have : its = its' := by simpa using congrArg Array.toList d1
  subst this
  exact r.inj r'
end
abbrev Cx.wish (X : Cx) (E : Value → Shared → Prop) : Cx := { X with xe := E }
abbrev Cx.nox (X : Cx) : Cx := X.wish fun _ _ => False
theorem Cx.Ok.wish {X : Cx} (ok : X.Ok) (E : Value → Shared → Prop) : (X.wish E).Ok :=
  ⟨ok.mod, ok.kind, ok.glob, ok.blt, ok.above, ok.inj, ok.has, ok.cab, ok.hd, ok.frames, ok.stk, ok.exf, ok.bs, ok.bsz, ok.noex, ok.exfs, ok.funs, ok.frf⟩
theorem Cx.Ok.unwish {X : Cx} {E : Value → Shared → Prop} (ok : (X.wish E).Ok) : X.Ok :=
  ⟨ok.mod, ok.kind, ok.glob, ok.blt, ok.above, ok.inj, ok.has, ok.cab, ok.hd, ok.frames, ok.stk, ok.exf, ok.bs, ok.bsz, ok.noex, ok.exfs, ok.funs, ok.frf⟩
section
variable {X : Cx} {pins : List (Addr × Obj)} {σ : St} {H : Hp} {s : Shared} {E : Value → Shared → Prop}
theorem Inv.wish (I : Inv X pins σ H s) (E : Value → Shared → Prop) : Inv (X.wish E) pins σ H s := ⟨I.ok.wish E, I.os, I.bare, I.base, I.loc, I.cell, I.free, I.freeC, I.pin, I.hok, I.len⟩
theorem Inv.unwish (I : Inv (X.wish E) pins σ H s) : Inv X pins σ H s := ⟨I.ok.unwish, I.os, I.bare, I.base, I.loc, I.cell, I.free, I.freeC, I.pin, I.hok, I.len⟩
theorem SP.unwish {D : Ends} {f : Flow} {s' : Shared} (h : SP (X.wish E) pins D f s') : SP X pins D f s' := by
  cases f with
  | next => obtain ⟨σ', H', I, q⟩ := h; exact ⟨σ', H', I.unwish, q⟩
  | brk => obtain ⟨σ', H', I, q⟩ := h; exact ⟨σ', H', I.unwish, q⟩
  | cont => obtain ⟨σ', H', I, q⟩ := h; exact ⟨σ', H', I.unwish, q⟩
  | ret u => obtain ⟨v, σ', H', I, r, q⟩ := h; exact ⟨v, σ', H', I.unwish, r, q⟩
theorem PE.nox {e : Expr} {t : TE} (h : PE X.nox e t) : PE X e t := fun pins s σ H Q I hw =>
  wpAny_mono (h pins s σ H Q (I.wish _) hw) (fun _ _ ⟨v, H', I', r, q⟩ => ⟨v, H', I'.unwish, r, q⟩) fun _ _ z => False.elim z
theorem PT.nox {e : Expr} {t : TT} (h : PT X.nox e t) : PT X e t := fun pins s σ H Q I hw =>
  wpAny_mono (h pins s σ H Q (I.wish _) hw) (fun _ _ ⟨H', I', q⟩ => ⟨H', I'.unwish, q⟩) fun _ _ z => False.elim z
theorem PSs.nox {st : List Stmt} {t : TS} (h : PSs X.nox st t) : PSs X st t := fun pins s σ H D I hw =>
  wpAny_mono (h pins s σ H D (I.wish _) hw) (fun _ _ q => q.unwish) fun _ _ z => False.elim z
end
section
variable {X : Cx} {st : Stmt} {rest : List Stmt} {t u : TS} {e : Expr} {te : TE} {pos : Pos}
def tNext : TS := fun D σ H => D.nx σ H
def tSeq (t u : TS) : TS := fun D σ H => t { D with nx := u D } σ H
theorem pss_nil : PSs X [] tNext := fun _ _ σ H _ I h => wpAny_execs_nil ⟨σ, H, I, h⟩
theorem pss_cons (h1 : PS X st t) (h2 : PSs X rest u) : PSs X (st :: rest) (tSeq t u) := by
  intro pins s σ H D I h
  refine wpAny_execs_cons (thn (h1 pins s σ H { D with nx := u D } I h) fun f s1 q => ?_)
  cases f with
  | next =>
    obtain ⟨σ', H', I', q⟩ := q
    exact h2 pins s1 σ' H' D I' q
  | ret v => exact q
  | brk => exact q
  | cont => exact q
theorem pss_one (h1 : PS X st t) : PSs X [st] t := by
  intro pins s σ H D I h
  refine wpAny_execs_cons (thn (h1 pins s σ H D I h) fun f s1 q => ?_)
  cases f with
  | next => exact wpAny_execs_nil q
  | ret v => exact q
  | brk => exact q
  | cont => exact q
theorem Inv.quiet {pins : List (Addr × Obj)} {σ : St} {H : Hp} {s : Shared} (I : Inv X pins σ H s) : interactive X.env = false := by simp [interactive, I.ok.kind]
def tDrop (te : TE) : TS := fun D σ H => te σ H fun _ H1 => D.nx σ H1
theorem ps_expr (he : PE X e te) (hs : swapsWith e none pos.line X.env = pure false := by rfl) : PS X (.Expr e pos) (tDrop te) := by
  intro pins s σ H D I h
  exact wpAny_Expr_any (thn (he pins s σ H _ I h) fun v s1 ⟨x, H1, I1, r1, q1⟩ => ⟨σ, H1, I1, q1⟩) I.quiet hs
def tRet (te : TE) : TS := fun D σ H => te σ H D.rt
theorem ps_ret (he : PE X e te) : PS X (.Return (some e) pos) (tRet te) := by
  intro pins s σ H D I h
  exact wpAny_Return_some (thn (he pins s σ H _ I h) fun v s1 ⟨x, H1, I1, r1, q1⟩ => ⟨x, σ, H1, I1, r1, q1⟩)
def tRetN : TS := fun D _ H => D.rt .non H
def tIfS (c : TT) (t u : TS) : TS := fun D σ H => c σ H fun b H1 => if b = true then t D σ H1 else u D σ H1
theorem ps_if {c : Expr} {a b : List Stmt} {tc : TT} (hc : PT X c tc) (ha : PSs X a t) (hb : PSs X b u) : PS X (.If c a b pos) (tIfS tc t u) := by
  intro pins s σ H D I h
  refine wpAny_If (thn (hc pins s σ H _ I h) fun d s1 ⟨H1, I1, q1⟩ => ?_)
  cases d with
  | true => exact ha pins s1 σ H1 D I1 q1
  | false => exact hb pins s1 σ H1 D I1 q1
def tNever : TS := fun _ _ _ => False
theorem pss_never {sts : List Stmt} : PSs X sts tNever := fun _ _ _ _ _ _ h => h.elim
end
abbrev TG := V → St → Hp → (St → Hp → Prop) → Prop
abbrev TGs := List V → St → Hp → (St → Hp → Prop) → Prop
def PG (X : Cx) (target : Expr) (t : TG) : Prop :=
  ∀ (pins : List (Addr × Obj)) (s : Shared) (σ : St) (H : Hp) (v : V) (u : Value) (Q : St → Hp → Prop), Inv X pins σ H s → RelV v u → t v σ H Q →
    wpAny (model X.prog X.w) X.A (assign target X.env u) (fun _ s' => ∃ σ' H', Inv X pins σ' H' s' ∧ Q σ' H') X.xe s
def PGs (X : Cx) (ts : List Expr) (t : TGs) : Prop :=
  ∀ (pins : List (Addr × Obj)) (s : Shared) (σ : St) (H : Hp) (vs : List V) (us : List Value) (Q : St → Hp → Prop), Inv X pins σ H s → Vals vs us → t vs σ H Q →
    wpAny (model X.prog X.w) X.A (assignInOrder ((assignEach ts X.env).map (·.2)) us) (fun _ s' => ∃ σ' H', Inv X pins σ' H' s' ∧ Q σ' H') X.xe s
section
variable {X : Cx} {pos : Pos}
def gName (i : Nat) : TG := fun v σ H Q => Q (σ.set i (some v)) H
theorem pg_name {i : Nat} {x : Str} (hN : X.N.Nodup) (hi : X.N[i]? = some x) (hx : Loc X.env.scope x) (hf : X.fn x = true ∨ X.env.scope.names.lookup x = some .local := by first | exact .inl rfl | exact .inr rfl | assumption) : PG X (.Name x pos) (gName i) := by
  intro pins s σ H v u Q I r h
  exact wpAny_assign_Name (store_ok I hN hi hx r (fun s' I' => ⟨_, H, I', h⟩) hf)
def gNil : TGs := fun vs σ H Q => vs = [] ∧ Q σ H
def gCons (t : TG) (u : TGs) : TGs := fun vs σ H Q => ∃ v r, vs = v :: r ∧ t v σ H fun σ' H' => u r σ' H' Q
theorem pgs_nil : PGs X [] gNil := by
  intro pins s σ H vs us Q I r h
  obtain ⟨e, h⟩ := h
  subst e
  cases r
  exact assignInOrder_nil ⟨σ, H, I, h⟩
theorem pgs_cons {e : Expr} {es : List Expr} {t : TG} {u : TGs} (h1 : PG X e t) (h2 : PGs X es u)
    (hs : (assignEach (e :: es) X.env).map (·.2) = assign e X.env :: (assignEach es X.env).map (·.2) := by rfl) : PGs X (e :: es) (gCons t u) := by
  intro pins s σ H vs us Q I r h
  obtain ⟨v, vr, e1, h⟩ := h
  subst e1
  cases r with
  | cons r rr =>
    rw [hs]
    refine assignInOrder_cons (thn (h1 pins s σ H _ _ _ I r h) fun _ s1 ⟨σ1, H1, I1, q1⟩ => ?_)
    exact h2 pins s1 σ1 H1 _ _ Q I1 rr q1
def gTup (K : PySem.W.Frag) (n : Nat) (t : TGs) : TG := fun v σ H Q => ∃ a xs, v = .ref a ∧ SqT K H a xs ∧ xs.length = n ∧ t xs σ H Q
theorem pg_tup {es : List Expr} {k : Nat} {t : TGs} {n : Nat} (hc : X.calm = true) (h : PGs X es t)
    (hn : (assignEach es X.env).length = n := by rfl) (hst : (assignEach es X.env).findIdx? (·.1) = none := by rfl) : PG X (.Tuple es k pos) (gTup X.K n t) := by
  intro pins s σ H v u Q I r hw
  obtain ⟨a, xs, e1, hq, hl, hw⟩ := hw
  subst e1
  cases r
  obtain ⟨its, rv, ht, hz⟩ := I.tuple hq
  refine assign_Tuple_tuple (I.ok.hd hc) ht (by simp [hn, ← hl, rv.length]) hst fun h' hx => ?_
  have I1 : Inv X pins σ H { s with heap := h' } := I.kept (t' := s.toks) fun b o e => hx b o (Nat.ne_of_lt (Heap.lt_size e)) e
  exact h pins _ σ H xs _ Q I1 (by simpa using rv) hw
def tAsg (te : TE) (g : TG) : TS := fun D σ H => te σ H fun x H1 => g x σ H1 D.nx
theorem ps_set {i : Nat} {x : Str} {e : Expr} {te : TE} {pos' : Pos} (hN : X.N.Nodup) (hi : X.N[i]? = some x) (hx : Loc X.env.scope x) (he : PE X e te) (hs : swapsWith e (some (.Name x pos')) pos.line X.env = pure false := by rfl) (hf : X.fn x = true ∨ X.env.scope.names.lookup x = some .local := by first | exact .inl rfl | exact .inr rfl | assumption) :
    PS X (.Assign [.Name x pos'] e pos) (tAsg te (gName i)) := by
  intro pins s σ H D I h
  refine wpAny_Assign_Name (thn (he pins s σ H _ I h) fun v s1 ⟨y, H1, I1, r1, q1⟩ => ?_) hs
  exact store_ok I1 hN hi hx r1 (fun s2 I2 => ⟨_, H1, I2, q1⟩) hf
end
section
variable {X : Cx} {pos : Pos}
def tWhile (c : TT) (tb : TS) : TS := fun D σ H => ∃ W : Nat → St → Hp → Prop, (∃ m, W m σ H) ∧ ∀ m σ H, W m σ H →
  c σ H fun b H1 => if b = true then ∃ N : St → Hp → Prop, (∀ σ' H', N σ' H' → ∃ m', m' < m ∧ W m' σ' H') ∧ tb { D with nx := N, ct := N, bk := D.nx } σ H1 else D.nx σ H1
theorem ps_while {c : Expr} {body : List Stmt} {tc : TT} {tb : TS} (hp : PassesOwn (model X.prog X.w) X.A X.env X.xe) (hc : PT X c tc) (hb : PSs X body tb) : PS X (.While c body [] pos) (tWhile tc tb) := by
  intro pins s σ H D I h
  obtain ⟨W, ⟨m0, w0⟩, turn⟩ := h
  refine wpAny_While (codeAny_whileLoop (fun n s' => ∃ σ' H', Inv X pins σ' H' s' ∧ W n σ' H') ?_ m0 ⟨σ, H, I, w0⟩)
  rintro n s1 ⟨σ1, H1, I1, w1⟩
  refine wpAny_passesOwn hp (thn (hc pins s1 σ1 H1 _ I1 (turn n σ1 H1 w1)) fun b s2 ⟨H2, I2, q2⟩ => ?_)
  cases b with
  | true =>
    obtain ⟨N, hN, q2⟩ := q2
    rw [if_pos rfl]
    refine wpAny_passesOwn hp (thn (hb pins s2 σ1 H2 _ I2 q2) fun f s3 q3 => ?_)
    cases f with
    | next =>
      obtain ⟨σ3, H3, I3, n3⟩ := q3
      obtain ⟨m', hm, w3⟩ := hN σ3 H3 n3
      exact ⟨m', hm, σ3, H3, I3, w3⟩
    | cont =>
      obtain ⟨σ3, H3, I3, n3⟩ := q3
      obtain ⟨m', hm, w3⟩ := hN σ3 H3 n3
      exact ⟨m', hm, σ3, H3, I3, w3⟩
    | brk => exact q3
    | ret v => exact q3
  | false =>
    rw [if_neg Bool.false_ne_true]
    exact wpAny_execs_nil ⟨σ1, H2, I2, q2⟩
end
structure It where
  go : Nat → Hp → Prop
  yld : Nat → Hp → V → Hp → Prop
  stop : Nat → Hp → Prop
def FpOk (X : Cx) (pins : List (Addr × Obj)) (H : Hp) (b : Addr) : Prop :=
  H b = none ∧ b ≠ X.env.locals ∧ b ∉ X.fs ∧ (b ∈ X.ex ∨ X.s₀.heap.objs.size ≤ b) ∧ (∀ x c, X.env.cells.lookup x = some c → c ≠ b) ∧ ∀ p ∈ X.pn ++ pins, p.1 ≠ b
theorem Inv.fpOk {X : Cx} {pins : List (Addr × Obj)} {σ : St} {H H' : Hp} {s : Shared} {b : Addr} (I : Inv X pins σ H s) (hb : s.heap.objs.size ≤ b) (hn : H' b = none) : FpOk X pins H' b := by
  refine ⟨hn, Nat.ne_of_gt (Nat.lt_of_lt_of_le I.lt hb), I.nofs hb, .inr (Nat.le_trans I.sz hb), fun x c e z => ?_, fun p hp z => ?_⟩
  · obtain ⟨v, q⟩ := I.cell x c e
    exact absurd (Nat.lt_of_lt_of_le q.lt (by rw [z]; exact hb)) (Nat.lt_irrefl _)
  · exact absurd (Nat.lt_of_lt_of_le (Heap.lt_size (I.pin p hp).1) (by rw [z]; exact hb)) (Nat.lt_irrefl _)
structure Turn (P : Program) (w : World) (K : PySem.W.Frag) (tg : Expr) (J : It) (fp : List Addr) (it : Addr) (tn : Nat → Heap → Prop) : Prop where
  mem : it ∈ fp
  obj : ∀ i h, tn i h → ∀ b ∈ fp, ∃ o, h.get? b = some o ∧ ∀ v, o.data ≠ .cell v
  keep : ∀ i h h', tn i h → (∀ b ∈ fp, ∀ o, h.get? b = some o → h'.get? b = some o) → tn i h'
  item : ∀ (X : Cx), X.prog = P → X.w = w → X.K = K → X.calm = true → ∀ (i : Nat) (pins : List (Addr × Obj)) (s : Shared) (σ : St) (H : Hp) (E : Value → Shared → Prop), Inv X pins σ H s → (∀ b ∈ fp, FpOk X pins H b) → tn i s.heap → J.go i H →
    wpAny (model P w) X.A (pyNext (.ref it)) (fun r s1 => ∃ u, r = some u ∧
      wpAny (model P w) X.A (letOwnedTupleGo tg (.ref it) u) (fun _ s2 => ∃ x H', Inv X pins σ H' s2 ∧ RelV x u ∧ J.yld i H x H' ∧ tn (i + 1) s2.heap ∧ ∀ b ∈ fp, H' b = none) E s1) E s
  done : ∀ (X : Cx), X.prog = P → X.w = w → X.K = K → X.calm = true → ∀ (i : Nat) (pins : List (Addr × Obj)) (s : Shared) (σ : St) (H : Hp) (E : Value → Shared → Prop), Inv X pins σ H s → (∀ b ∈ fp, FpOk X pins H b) → tn i s.heap → J.stop i H →
    wpAny (model P w) X.A (pyNext (.ref it)) (fun r s1 => r = none ∧ Inv X pins σ H s1) E s
  self : ∀ (A : Around) (i : Nat) (s : Shared) (Q : Value → Shared → Prop) (E : Value → Shared → Prop), tn i s.heap → Q (.ref it) s → wpAny (model P w) A (pyIter (.ref it)) Q E s
abbrev TI := St → Hp → (It → Hp → Prop) → Prop
def PIE (X : Cx) (pins : List (Addr × Obj)) (σ : St) (tg : Expr) (R : It → Hp → Prop) (itv : Value) (s2 : Shared) : Prop :=
  ∃ (it : Addr) (fp : List Addr) (tn : Nat → Heap → Prop) (J : It) (H' : Hp), itv = .ref it ∧ Inv X pins σ H' s2 ∧ Turn X.prog X.w X.K tg J fp it tn ∧ tn 0 s2.heap ∧ (∀ b ∈ fp, FpOk X pins H' b) ∧ R J H'
def PI (X : Cx) (tg iter : Expr) (wi : TI) : Prop :=
  ∀ (pins : List (Addr × Obj)) (s : Shared) (σ : St) (H : Hp) (R : It → Hp → Prop), Inv X pins σ H s → wi σ H R →
    wpAny (model X.prog X.w) X.A (eval iter X.env) (fun v s1 => wpAny (model X.prog X.w) X.A (pyIter v) (PIE X pins σ tg R) X.xe s1) X.xe s
theorem go_of {M : Model} {A : Around} {E : Value → Shared → Prop} {s : Shared} {tg : Expr} {it : Addr} {u : Value} {o : Obj} {n : String} {vs : Array Value} {Q : Unit → Shared → Prop} (ho : s.heap.get? it = some o) (hc : o.cls = .type n) (hd : o.data = .fields vs)
    (hn : ["enumerate", "zip", "dict_itemiterator", "dict_reverseitemiterator", "odict_iterator", "itertools.zip_longest", "itertools.pairwise"].contains n = false) (hQ : Q () s) : wpAny M A (letOwnedTupleGo tg (.ref it) u) Q E s := by
  unfold letOwnedTupleGo
  cases tg <;> first
    | exact wpAny_pure hQ
    | (cases u <;> first
        | exact wpAny_pure hQ
        | (refine wpAny_bind (wpAny_load ho ?_)
           rw [hc, hd]
           show wpAny M A (if (["enumerate", "zip", "dict_itemiterator", "dict_reverseitemiterator", "odict_iterator", "itertools.zip_longest", "itertools.pairwise"].contains n && vs[0]? == some (rawInt _)) = true then _ else _) Q E s
           rw [if_neg (by intro h; rw [hn, Bool.false_and] at h; cases h)]
           exact wpAny_pure hQ))
def Itl (K : PySem.W.Frag) (a : Addr) : It :=
  ⟨fun i H => ∃ xs x, SqL K H a xs ∧ xs[i]? = some x, fun i H x H' => H' = H ∧ ∀ xs, SqL K H a xs → xs[i]? = some x, fun i H => ∃ xs, SqL K H a xs ∧ xs.length ≤ i⟩
def Itt (K : PySem.W.Frag) (a : Addr) : It :=
  ⟨fun i H => ∃ xs x, SqT K H a xs ∧ xs[i]? = some x, fun i H x H' => H' = H ∧ ∀ xs, SqT K H a xs → xs[i]? = some x, fun i H => ∃ xs, SqT K H a xs ∧ xs.length ≤ i⟩
def Itr (lo : Int) (n : Nat) : It := ⟨fun i _ => i < n, fun i H x H' => H' = H ∧ x = .int (lo + i), fun i _ => n ≤ i⟩
theorem turn_list {P : Program} {w : World} {K : PySem.W.Frag} {tg : Expr} (a it : Addr) : Turn P w K tg (Itl K a) [it] it (fun i h => h.IsListIter it a i) where
  mem := by simp
  obj := fun i h st b hb => by
    have e : b = it := by simpa using hb
    subst e
    obtain ⟨o, e, c, d⟩ := st
    exact ⟨o, e, fun v z => by rw [d] at z; cases z⟩
  keep := fun i h h' st k => st.at fun o e => k it (by simp) o e
  item := by
    intro X hP hw hK hc i pins s σ H E I hf st hg
    subst hP hw hK
    obtain ⟨xs, x, hq, hx⟩ := hg
    obtain ⟨its, rv, p, hz⟩ := I.list hq
    obtain ⟨u, hu, ru⟩ := rv.get hx
    obtain ⟨f0, f1, f2, f3, f4, f5⟩ := hf it (by simp)
    refine wpAny_pyNext_list_item st p.isList (x := u) (by simpa using hu) fun h' st' sb => ?_
    have I1 : Inv X pins σ H { s with heap := h' } := I.turned (t' := s.toks) (fun b o hb e => (sb.2 b hb).trans e) f0 f1 f3 f4 f5
    obtain ⟨o, e, c, d⟩ := id st'
    exact ⟨u, rfl, go_of (s := { s with heap := h' }) e c d (by decide) ⟨x, H, I1, ru, ⟨rfl, fun ys hy => by rw [I.list_inj hy hq]; exact hx⟩, st', fun b hb => (hf b hb).1⟩⟩
  done := by
    intro X hP hw hK hc i pins s σ H E I hf st hg
    subst hP hw hK
    obtain ⟨xs, hq, hx⟩ := hg
    obtain ⟨its, rv, p, hz⟩ := I.list hq
    obtain ⟨f0, f1, f2, f3, f4, f5⟩ := hf it (by simp)
    have hl := rv.length
    exact wpAny_pyNext_list_end (I.ok.hd hc) st p.isList (by simp; omega) fun h' eb => ⟨rfl, I.turned (t' := s.toks) (fun b o hb e => eb b o hb e) f0 f1 f3 f4 f5⟩
  self := fun _ _ _ _ _ st h => wpAny_pyIter_listiter st h
theorem turn_tuple {P : Program} {w : World} {K : PySem.W.Frag} {tg : Expr} (a it : Addr) : Turn P w K tg (Itt K a) [it] it (fun i h => h.IsTupleIter it a i) where
  mem := by simp
  obj := fun i h st b hb => by
    have e : b = it := by simpa using hb
    subst e
    obtain ⟨o, e, c, d⟩ := st
    exact ⟨o, e, fun v z => by rw [d] at z; cases z⟩
  keep := fun i h h' st k => st.at fun o e => k it (by simp) o e
  item := by
    intro X hP hw hK hc i pins s σ H E I hf st hg
    subst hP hw hK
    obtain ⟨xs, x, hq, hx⟩ := hg
    obtain ⟨its, rv, p, hz⟩ := I.tuple hq
    obtain ⟨u, hu, ru⟩ := rv.get hx
    obtain ⟨f0, f1, f2, f3, f4, f5⟩ := hf it (by simp)
    refine wpAny_pyNext_tuple_item st (show s.heap.IsTuple a its.toArray from p) (x := u) (by simpa using hu) fun h' st' sb => ?_
    have I1 : Inv X pins σ H { s with heap := h' } := I.turned (t' := s.toks) (fun b o hb e => (sb.2 b hb).trans e) f0 f1 f3 f4 f5
    obtain ⟨o, e, c, d⟩ := id st'
    exact ⟨u, rfl, go_of (s := { s with heap := h' }) e c d (by decide) ⟨x, H, I1, ru, ⟨rfl, fun ys hy => by rw [I.tuple_inj hy hq]; exact hx⟩, st', fun b hb => (hf b hb).1⟩⟩
  done := by
    intro X hP hw hK hc i pins s σ H E I hf st hg
    subst hP hw hK
    obtain ⟨xs, hq, hx⟩ := hg
    obtain ⟨its, rv, p, hz⟩ := I.tuple hq
    obtain ⟨f0, f1, f2, f3, f4, f5⟩ := hf it (by simp)
    have hl := rv.length
    exact wpAny_pyNext_tuple_end (I.ok.hd hc) st (show s.heap.IsTuple a its.toArray from p) (by simp; omega) fun h' eb => ⟨rfl, I.turned (t' := s.toks) (fun b o hb e => eb b o hb e) f0 f1 f3 f4 f5⟩
  self := fun _ _ _ _ _ st h => wpAny_pyIter_tupleiter st h
theorem turn_range {P : Program} {w : World} {K : PySem.W.Frag} {tg : Expr} (it : Addr) (lo : Int) (n : Nat) : Turn P w K tg (Itr lo n) [it] it (fun i h => IsRangeIter h it (lo + (i : Nat) * 1) ((n : Int) - (i : Nat)) 1) where
  mem := by simp
  obj := fun i h st b hb => by
    have e : b = it := by simpa using hb
    subst e
    exact ⟨_, st, fun v z => by
      have z' : Data.fields _ = Data.cell v := z
      cases z'⟩
  keep := fun i h h' st k => k it (by simp) _ st
  item := by
    intro X hP hw hK hc i pins s σ H E I hf st hg
    subst hP hw hK
    obtain ⟨f0, f1, f2, f3, f4, f5⟩ := hf it (by simp)
    have W := Walks.range (prog := X.prog) (w := X.w) (I.ok.hd hc) it lo 1 n
    refine W.item i s _ _ hg st fun v h' tk hv st' kk => ?_
    obtain ⟨t, rfl⟩ := hv
    have I1 : Inv X pins σ H { s with heap := h', toks := tk } := I.turned (fun b o hb e => kk b o (by simpa using hb) e) f0 f1 f3 f4 f5
    refine ⟨_, rfl, go_of (s := { s with heap := h', toks := tk }) (n := "range_iterator") st' rfl rfl (by decide) ⟨.int (lo + i), H, I1, ⟨t, ?_⟩, ⟨rfl, rfl⟩, st', fun b hb => (hf b hb).1⟩⟩
    rw [Int.mul_one]
  done := by
    intro X hP hw hK hc i pins s σ H E I hf st hg
    subst hP hw hK
    obtain ⟨f0, f1, f2, f3, f4, f5⟩ := hf it (by simp)
    exact wpAny_pyNext_range_end (I.ok.hd hc) st (by have : n ≤ i := hg; omega) fun h' eb => ⟨rfl, I.turned (t' := s.toks) (fun b o hb e => eb b o hb e) f0 f1 f3 f4 f5⟩
  self := fun _ _ _ _ _ st h => wpAny_pyIter_rangeiter st h
end L2
namespace L2
open PySem PySem.Spec PyProof.Rows
section
variable {X : Cx} {tg : Expr}
def iList (K : PySem.W.Frag) (tl : TE) : TI := fun σ H R => tl σ H fun x H1 => ∃ a, x = .ref a ∧ (∃ xs, SqL K H1 a xs) ∧ R (Itl K a) H1
def iTup (K : PySem.W.Frag) (tl : TE) : TI := fun σ H R => tl σ H fun x H1 => ∃ a, x = .ref a ∧ (∃ xs, SqT K H1 a xs) ∧ R (Itt K a) H1
theorem pi_list {l : Expr} {tl : TE} (hl : PE X l tl) : PI X tg l (iList X.K tl) := by
  intro pins s σ H R I h
  refine thn (hl pins s σ H _ I h) fun v s1 ⟨x, H1, I1, r1, q1⟩ => ?_
  obtain ⟨a, e, ⟨xs, hq⟩, q⟩ := q1
  subst e
  cases r1
  obtain ⟨its, rv, p, hz⟩ := I1.list hq
  refine wpAny_pyIter_list p.isList ?_
  refine ⟨s1.heap.objs.size, [s1.heap.objs.size], _, _, H1, rfl, I1.kept (t' := s1.toks) fun b o e => Heap.get?_push_of_some _ e, turn_list a _, ⟨_, Heap.get?_push_size _ rfl, rfl, rfl⟩, fun b hb => ?_, q⟩
  have e : b = s1.heap.objs.size := by simpa using hb
  subst e
  exact I1.fpOk (Nat.le_refl _) (I1.hok.fresh (Nat.le_refl _))
theorem pi_tup {l : Expr} {tl : TE} (hl : PE X l tl) : PI X tg l (iTup X.K tl) := by
  intro pins s σ H R I h
  refine thn (hl pins s σ H _ I h) fun v s1 ⟨x, H1, I1, r1, q1⟩ => ?_
  obtain ⟨a, e, ⟨xs, hq⟩, q⟩ := q1
  subst e
  cases r1
  obtain ⟨its, rv, p, hz⟩ := I1.tuple hq
  refine wpAny_pyIter_tuple (show s1.heap.IsTuple a its.toArray from p) ?_
  refine ⟨s1.heap.objs.size, [s1.heap.objs.size], _, _, H1, rfl, I1.kept (t' := s1.toks) fun b o e => Heap.get?_push_of_some _ e, turn_tuple a _, ⟨_, Heap.get?_push_size _ rfl, rfl, rfl⟩, fun b hb => ?_, q⟩
  have e : b = s1.heap.objs.size := by simpa using hb
  subst e
  exact I1.fpOk (Nat.le_refl _) (I1.hok.fresh (Nat.le_refl _))
theorem range_it {pins : List (Addr × Obj)} {σ : St} {H : Hp} {s : Shared} {R : It → Hp → Prop} {E : Value → Shared → Prop} {lo hi : Int} {t u v : Tok} {tk : Nat} (I : Inv X pins σ H s) (h1 : -(2 ^ 62) ≤ lo) (h2 : lo < 2 ^ 62) (h3 : -(2 ^ 62) ≤ hi) (h4 : hi < 2 ^ 62)
    (q : R (Itr lo (hi - lo).toNat) H) : wpAny (model X.prog X.w) X.A (pyIter (.ref s.heap.objs.size)) (PIE X pins σ tg R) E { s with heap := s.heap.push { cls := .type "range", data := .fields #[.int lo t, .int hi u, .int 1 v] }, toks := tk } := by
  refine wpAny_pyIter_range (IsRange.new ..) (small_one h1 h2 h3 h4) ?_
  have I1 : Inv X pins σ H { s with heap := s.heap.push { cls := .type "range", data := .fields #[.int lo t, .int hi u, .int 1 v] }, toks := tk } := I.kept fun b o e => Heap.get?_push_of_some _ e
  refine ⟨(s.heap.push { cls := .type "range", data := .fields #[.int lo t, .int hi u, .int 1 v] }).objs.size, [(s.heap.push { cls := .type "range", data := .fields #[.int lo t, .int hi u, .int 1 v] }).objs.size], _, _, H, rfl,
    I1.kept (t' := tk) fun b o e => Heap.get?_push_of_some _ e, turn_range _ lo (hi - lo).toNat, ?_, fun b hb => ?_, q⟩
  · have e1 : lo + ((0 : Nat) : Int) * 1 = lo := by simp
    have e2 : (((hi - lo).toNat : Nat) : Int) - ((0 : Nat) : Int) = Builtin.Range.rangeSize lo hi 1 := by rw [rangeSize_one]; split <;> omega
    show IsRangeIter _ _ (lo + ((0 : Nat) : Int) * 1) ((((hi - lo).toNat : Nat) : Int) - ((0 : Nat) : Int)) 1
    rw [e1, e2]
    exact Heap.get?_push_size _ rfl
  · have e : b = (s.heap.push { cls := .type "range", data := .fields #[.int lo t, .int hi u, .int 1 v] }).objs.size := by simpa using hb
    subst e
    exact I1.fpOk (Nat.le_refl _) (I1.hok.fresh (Nat.le_refl _))
def iRng1 (ta : TA) : TI := fun σ H R => ta σ H fun vs H1 => ∃ j : Int, vs = [.int j] ∧ -(2 ^ 62) ≤ j ∧ j < 2 ^ 62 ∧ R (Itr 0 j.toNat) H1
def iRng2 (ta : TA) : TI := fun σ H R => ta σ H fun vs H1 => ∃ i j : Int, vs = [.int i, .int j] ∧ (-(2 ^ 62) ≤ i ∧ i < 2 ^ 62 ∧ -(2 ^ 62) ≤ j ∧ j < 2 ^ 62) ∧ R (Itr i (j - i).toNat) H1
theorem pi_range1 {a : Expr} {ta : TA} {p pos : Pos} (hg : Gl X "range") (hm : X.mg "range" = none) (ha : PA X [a] ta) (hs : starEach [a] X.env = [(false, eval a X.env)] := by rfl) : PI X tg (.Call (.Name "range" p) [a] [] pos) (iRng1 ta) := by
  intro pins s σ H R I h
  refine Call_ (ld_blt I hg hm boot_range (PyProof.Rows.callWith_type1 (thn (ha pos pins s σ H _ I h) fun us s1 ⟨vs, H1, I1, r1, q1⟩ => ?_) hs rfl))
  obtain ⟨j, e, q1, q2, q⟩ := q1
  subst e
  cases r1 with
  | cons r rr =>
    cases rr
    obtain ⟨t, rfl⟩ := r
    exact call_range_1 (range_it I1 (by omega) (by omega) q1 q2 (by simpa using q))
theorem pi_range2 {a b : Expr} {ta : TA} {p pos : Pos} (hg : Gl X "range") (hm : X.mg "range" = none) (ha : PA X [a, b] ta) (hs : starEach [a, b] X.env = [(false, eval a X.env), (false, eval b X.env)] := by rfl) (hs2 : starEach [b] X.env = [(false, eval b X.env)] := by rfl) :
    PI X tg (.Call (.Name "range" p) [a, b] [] pos) (iRng2 ta) := by
  intro pins s σ H R I h
  refine Call_ (ld_blt I hg hm boot_range (PyProof.Rows.callWith_type1 (thn (ha pos pins s σ H _ I h) fun us s1 ⟨vs, H1, I1, r1, q1⟩ => ?_) (by rw [hs, hs2]) (by rw [hs2]; rfl)))
  obtain ⟨i, j, e, ⟨q1, q2, q3, q4⟩, q⟩ := q1
  subst e
  cases r1 with
  | cons r rr =>
    cases rr with
    | cons r' rr =>
      cases rr
      obtain ⟨t, rfl⟩ := r
      obtain ⟨t', rfl⟩ := r'
      exact call_range_2 (range_it I1 q1 q2 q3 q4 q)
def tFor (wi : TI) (g : TG) (tb : TS) : TS := fun D σ H => wi σ H fun J H1 => ∃ W : Nat → Nat → St → Hp → Prop, (∃ m, W 0 m σ H1) ∧ ∀ i m σ H, W i m σ H →
  (J.stop i H ∧ D.nx σ H) ∨ (J.go i H ∧ ∃ N : St → Hp → Prop, (∀ σ' H', N σ' H' → ∃ m', m' < m ∧ W (i + 1) m' σ' H') ∧ ∀ x H', J.yld i H x H' → g x σ H' fun σ2 H2 => tb { D with nx := N, ct := N, bk := D.nx } σ2 H2)
def pinsAt (fp : List Addr) (h : Heap) : List (Addr × Obj) := fp.filterMap fun b => (h.get? b).map fun o => (b, o)
theorem mem_pinsAt {fp : List Addr} {h : Heap} {b : Addr} {o : Obj} (hb : b ∈ fp) (e : h.get? b = some o) : (b, o) ∈ pinsAt fp h := List.mem_filterMap.mpr ⟨b, hb, by rw [e]; rfl⟩
theorem of_pinsAt {fp : List Addr} {h : Heap} {p : Addr × Obj} (hp : p ∈ pinsAt fp h) : p.1 ∈ fp ∧ h.get? p.1 = some p.2 := by
  obtain ⟨b, hb, e⟩ := List.mem_filterMap.mp hp
  cases q : h.get? b with
  | none => rw [q] at e; cases e
  | some o =>
    rw [q] at e
    have e' : (b, o) = p := Option.some.inj e
    subst e'
    exact ⟨hb, q⟩
theorem Inv.pinned {pins : List (Addr × Obj)} {σ : St} {H : Hp} {s : Shared} {fp : List Addr} (I : Inv X pins σ H s) (hf : ∀ b ∈ fp, FpOk X pins H b) (ho : ∀ b ∈ fp, ∃ o, s.heap.get? b = some o ∧ ∀ v, o.data ≠ .cell v) : Inv X (pins ++ pinsAt fp s.heap) σ H s :=
  I.pins_of fun p hp => (List.mem_append.mp hp).elim (fun z => I.pin p (List.mem_append_right _ z)) fun z => by
    obtain ⟨hb, e⟩ := of_pinsAt z
    obtain ⟨f0, f1, f2, _⟩ := hf p.1 hb
    obtain ⟨o, e', d⟩ := ho p.1 hb
    rw [e] at e'; cases e'
    exact ⟨e, f0, f1, f2, d⟩
theorem Inv.unpinned {pins pl : List (Addr × Obj)} {σ : St} {H : Hp} {s : Shared} (I : Inv X (pins ++ pl) σ H s) : Inv X pins σ H s := I.pins_of fun p hp => I.pin p (List.mem_append_right _ (List.mem_append_left _ hp))
theorem ps_for {iter : Expr} {body : List Stmt} {wi : TI} {g : TG} {tb : TS} {pos : Pos} (hp : PassesOwn (model X.prog X.w) X.A X.env X.xe) (hc : X.calm = true) (hi : PI X tg iter wi) (hg : PG X tg g) (hb : PSs X body tb)
    (hs : ∀ x, foldedSetIterable iter X.env x = pure x := by intro _; rfl) : PS X (.For tg iter body [] pos) (tFor wi g tb) := by
  intro pins s σ H D I h
  refine wpAny_For (thn (hi pins s σ H _ I h) fun v s1 h1 => thn h1 fun itv s2 h2 => ?_) hs
  obtain ⟨it, fp, tn, J, H2, e, I2, T, st2, f2, W, ⟨m0, w0⟩, turn⟩ := h2
  subst e
  have stat : ∀ {H' : Hp}, (∀ b ∈ fp, H' b = none) → ∀ b ∈ fp, FpOk X pins H' b := fun hn b hb => ⟨hn b hb, (f2 b hb).2⟩
  refine codeAny_forLoop_any (fun n s' => ∃ i σ' H', Inv X pins σ' H' s' ∧ tn i s'.heap ∧ (∀ b ∈ fp, H' b = none) ∧ W i n σ' H') ?_ m0 ⟨0, σ, H2, I2, st2, fun b hb => (f2 b hb).1, w0⟩
  rintro n s3 ⟨i, σ3, H3, I3, st3, fr3, w3⟩
  rcases turn i n σ3 H3 w3 with ⟨stop, qn⟩ | ⟨go, N, hN, step⟩
  · refine wpAny_passesOwn hp (thn (T.done X rfl rfl rfl hc i pins s3 σ3 H3 X.xe I3 (stat fr3) st3 stop) fun r s4 ⟨hr, I4⟩ => ?_)
    subst hr
    exact wpAny_execs_nil ⟨σ3, H3, I4, qn⟩
  · refine wpAny_passesOwn hp (thn (T.item X rfl rfl rfl hc i pins s3 σ3 H3 X.xe I3 (stat fr3) st3 go) fun r s4 ⟨u, hr, h4⟩ => ?_)
    subst hr
    refine wpAny_passesOwn hp (thn h4 fun _ s5 ⟨x, H5, I5, r5, y5, st5, fr5⟩ => ?_)
    have I5' := I5.pinned (stat fr5) (T.obj _ _ st5)
    refine wpAny_passesOwn hp (thn (hg _ s5 σ3 H5 x u _ I5' r5 (step x H5 y5)) fun _ s6 ⟨σ6, H6, I6, q6⟩ => ?_)
    refine wpAny_passesOwn hp (thn (hb _ s6 σ6 H6 _ I6 q6) fun f s7 q7 => ?_)
    have again : ∀ {σ7 : St} {H7 : Hp}, Inv X (pins ++ pinsAt fp s5.heap) σ7 H7 s7 → N σ7 H7 → ∃ m, m < n ∧ ∃ i σ' H', Inv X pins σ' H' s7 ∧ tn i s7.heap ∧ (∀ b ∈ fp, H' b = none) ∧ W i m σ' H' := fun {σ7 H7} I7 n7 => by
      obtain ⟨m', hm, w7⟩ := hN σ7 H7 n7
      refine ⟨m', hm, i + 1, σ7, H7, I7.unpinned, T.keep _ _ _ st5 fun b hb o e => (I7.pin (b, o) (List.mem_append_right _ (List.mem_append_right _ (mem_pinsAt hb e)))).1, fun b hb => ?_, w7⟩
      obtain ⟨o, e, d⟩ := T.obj _ _ st5 b hb
      exact (I7.pin (b, o) (List.mem_append_right _ (List.mem_append_right _ (mem_pinsAt hb e)))).2.1
    cases f with
    | next => obtain ⟨σ7, H7, I7, n7⟩ := q7; exact again I7 n7
    | cont => obtain ⟨σ7, H7, I7, n7⟩ := q7; exact again I7 n7
    | brk => obtain ⟨σ7, H7, I7, q7⟩ := q7; exact ⟨σ7, H7, I7.unpinned, q7⟩
    | ret v => obtain ⟨x7, σ7, H7, I7, r7, q7⟩ := q7; exact ⟨x7, σ7, H7, I7.unpinned, r7, q7⟩
end
theorem for_list {K : PySem.W.Frag} {a : Addr} {xs : List V} {g : TG} {tb : TS} {D : Ends} {σ : St} {H : Hp} (Pv : Nat → St → Hp → Prop) (h0 : Pv 0 σ H) (hl : ∀ i σ H, i ≤ xs.length → Pv i σ H → SqL K H a xs)
    (hs : ∀ i x σ H, xs[i]? = some x → Pv i σ H → g x σ H fun σ2 H2 => tb { D with nx := Pv (i + 1), ct := Pv (i + 1), bk := D.nx } σ2 H2) (hd : ∀ σ H, Pv xs.length σ H → D.nx σ H) :
    ∃ W : Nat → Nat → St → Hp → Prop, (∃ m, W 0 m σ H) ∧ ∀ i m σ H, W i m σ H →
      ((Itl K a).stop i H ∧ D.nx σ H) ∨ ((Itl K a).go i H ∧ ∃ N : St → Hp → Prop, (∀ σ' H', N σ' H' → ∃ m', m' < m ∧ W (i + 1) m' σ' H') ∧ ∀ x H', (Itl K a).yld i H x H' → g x σ H' fun σ2 H2 => tb { D with nx := N, ct := N, bk := D.nx } σ2 H2) := by
  refine ⟨fun i m σ H => m = xs.length - i ∧ i ≤ xs.length ∧ Pv i σ H, ⟨xs.length, by simp, Nat.zero_le _, h0⟩, ?_⟩
  rintro i m σ H ⟨rfl, hi, p⟩
  have q := hl i σ H hi p
  by_cases hlt : i < xs.length
  · refine .inr ⟨⟨xs, xs[i], q, by simp [hlt]⟩, Pv (i + 1), fun σ' H' p' => ⟨xs.length - (i + 1), by omega, rfl, hlt, p'⟩, fun x H' y => ?_⟩
    obtain ⟨e, y⟩ := y
    subst e
    exact hs i x σ _ (y xs q) p
  · have e : i = xs.length := by omega
    subst e
    exact .inl ⟨⟨xs, q, Nat.le_refl _⟩, hd σ H p⟩
theorem for_range {lo : Int} {n : Nat} {g : TG} {tb : TS} {D : Ends} {σ : St} {H : Hp} (Pv : Nat → St → Hp → Prop) (h0 : Pv 0 σ H)
    (hs : ∀ i σ H, i < n → Pv i σ H → g (.int (lo + i)) σ H fun σ2 H2 => tb { D with nx := Pv (i + 1), ct := Pv (i + 1), bk := D.nx } σ2 H2) (hd : ∀ σ H, Pv n σ H → D.nx σ H) :
    ∃ W : Nat → Nat → St → Hp → Prop, (∃ m, W 0 m σ H) ∧ ∀ i m σ H, W i m σ H →
      ((Itr lo n).stop i H ∧ D.nx σ H) ∨ ((Itr lo n).go i H ∧ ∃ N : St → Hp → Prop, (∀ σ' H', N σ' H' → ∃ m', m' < m ∧ W (i + 1) m' σ' H') ∧ ∀ x H', (Itr lo n).yld i H x H' → g x σ H' fun σ2 H2 => tb { D with nx := N, ct := N, bk := D.nx } σ2 H2) := by
  refine ⟨fun i m σ H => m = n - i ∧ i ≤ n ∧ Pv i σ H, ⟨n, by simp, Nat.zero_le _, h0⟩, ?_⟩
  rintro i m σ H ⟨rfl, hi, p⟩
  by_cases hlt : i < n
  · refine .inr ⟨hlt, Pv (i + 1), fun σ' H' p' => ⟨n - (i + 1), by omega, rfl, hlt, p'⟩, fun x H' y => ?_⟩
    obtain ⟨e, y⟩ := y
    subst e y
    exact hs i σ _ hlt p
  · have e : i = n := by omega
    subst e
    exact .inl ⟨Nat.le_refl _, hd σ H p⟩
end L2
namespace L2
open PySem PySem.Spec PyProof.Rows
abbrev R2 := V → V → Hp → VK → Prop
def OpR (X : Cx) (f : Value → Value → Sem Value) (r : R2) : Prop :=
  ∀ (pins : List (Addr × Obj)) (s : Shared) (σ : St) (H : Hp) (x y : V) (v u : Value) (Q : VK), Inv X pins σ H s → RelV x v → RelV y u → r x y H Q →
    wpAny (model X.prog X.w) X.A (f v u) (EP X pins σ Q) X.xe s
def UnR (X : Cx) (f : Value → Sem Value) (r : V → Hp → VK → Prop) : Prop :=
  ∀ (pins : List (Addr × Obj)) (s : Shared) (σ : St) (H : Hp) (x : V) (v : Value) (Q : VK), Inv X pins σ H s → RelV x v → r x H Q →
    wpAny (model X.prog X.w) X.A (f v) (EP X pins σ Q) X.xe s
def CallR (X : Cx) (f : Value) (r : List V → Hp → VK → Prop) : Prop :=
  ∀ (pins : List (Addr × Obj)) (s : Shared) (σ : St) (H : Hp) (xs : List V) (us : List Value) (Q : VK), Inv X pins σ H s → Vals xs us → r xs H Q →
    wpAny (model X.prog X.w) X.A (call f us) (EP X pins σ Q) X.xe s
def tOp (r : R2) (ta tb : TE) : TE := fun σ H Q => ta σ H fun x H1 => tb σ H1 fun y H2 => r x y H2 Q
def tUn (r : V → Hp → VK → Prop) (ta : TE) : TE := fun σ H Q => ta σ H fun x H1 => r x H1 Q
def rI (C : Int → Int → Prop) (g : Int → Int → V) : R2 := fun x y H Q => ∃ i j, x = .int i ∧ y = .int j ∧ C i j ∧ Q (g i j) H
def rI0 (g : Int → Int → V) : R2 := fun x y H Q => ∃ i j, x = .int i ∧ y = .int j ∧ Q (g i j) H
def rU (g : Int → V) : V → Hp → VK → Prop := fun x H Q => ∃ i, x = .int i ∧ Q (g i) H
section
variable {X : Cx} {a b c : Expr} {ta tb tc : TE} {pos : Pos}
theorem binT (ha : PE X a ta) (hb : PE X b tb) {pins : List (Addr × Obj)} {s : Shared} {σ : St} {H : Hp} {R : V → V → Hp → Prop} (I : Inv X pins σ H s)
    (h : ta σ H fun x H1 => tb σ H1 fun y H2 => R x y H2) {Q : Value → Shared → Prop} {f : Value → Value → Sem Value}
    (hf : ∀ v u s2 x y H2, Inv X pins σ H2 s2 → RelV x v → RelV y u → R x y H2 → wpAny (model X.prog X.w) X.A (f v u) Q X.xe s2) :
    wpAny (model X.prog X.w) X.A (eval a X.env) (fun v s₁ => wpAny (model X.prog X.w) X.A (eval b X.env) (fun u s₂ => wpAny (model X.prog X.w) X.A (f v u) Q X.xe s₂) X.xe s₁) X.xe s := by
  refine thn (ha pins s σ H _ I h) fun v s1 ⟨x, H1, I1, r1, q1⟩ => ?_
  refine thn (hb pins s1 σ H1 _ I1 q1) fun u s2 ⟨y, H2, I2, r2, q2⟩ => ?_
  exact hf v u s2 x y H2 I2 r1 r2 q2
theorem pe_op {op : Operator} {r : R2} (ho : OpR X (binaryOp op) r) (ha : PE X a ta) (hb : PE X b tb) : PE X (.BinOp a op b pos) (tOp r ta tb) := by
  intro pins s σ H Q I h
  exact wpAny_BinOp (binT ha hb I h fun v u s2 x y H2 I2 rx ry q => ho pins s2 σ H2 x y v u Q I2 rx ry q)
theorem pe_un {op : UnaryOp} {r : V → Hp → VK → Prop} (ho : UnR X (unaryOp op) r) (ha : PE X a ta) : PE X (.UnaryOp op a pos) (tUn r ta) := by
  intro pins s σ H Q I h
  exact UnaryOp_ (thn (ha pins s σ H _ I h) fun v s1 ⟨x, H1, I1, r1, q1⟩ => ho pins s1 σ H1 x v Q I1 r1 q1)
theorem opI {f : Value → Value → Sem Value} {C : Int → Int → Prop} {g : Int → Int → Int}
    (rule : ∀ (i j : Int) (t u : Tok) (s : Shared) (Q : Value → Shared → Prop) (E : Value → Shared → Prop), C i j → Q (.int (g i j) s.toks) { s with toks := s.toks + 1 } → wpAny (model X.prog X.w) X.A (f (.int i t) (.int j u)) Q E s) :
    OpR X f (rI C fun i j => .int (g i j)) := by
  intro pins s σ H x y v u Q I rx ry h
  obtain ⟨i, j, rfl, rfl, hc, q⟩ := h
  obtain ⟨t, rfl⟩ := rx
  obtain ⟨t', rfl⟩ := ry
  exact rule i j t t' s _ _ hc ⟨.int (g i j), H, I.tok _, ⟨_, rfl⟩, q⟩
theorem opI0 {f : Value → Value → Sem Value} {g : Int → Int → Int}
    (rule : ∀ (i j : Int) (t u : Tok) (s : Shared) (Q : Value → Shared → Prop) (E : Value → Shared → Prop), Q (.int (g i j) s.toks) { s with toks := s.toks + 1 } → wpAny (model X.prog X.w) X.A (f (.int i t) (.int j u)) Q E s) :
    OpR X f (rI0 fun i j => .int (g i j)) := by
  intro pins s σ H x y v u Q I rx ry h
  obtain ⟨i, j, rfl, rfl, q⟩ := h
  obtain ⟨t, rfl⟩ := rx
  obtain ⟨t', rfl⟩ := ry
  exact rule i j t t' s _ _ ⟨.int (g i j), H, I.tok _, ⟨_, rfl⟩, q⟩
theorem opB0 {f : Value → Value → Sem Value} {g : Int → Int → Bool}
    (rule : ∀ (i j : Int) (t u : Tok) (s : Shared) (Q : Value → Shared → Prop) (E : Value → Shared → Prop), Q (.bool (g i j)) s → wpAny (model X.prog X.w) X.A (f (.int i t) (.int j u)) Q E s) :
    OpR X f (rI0 fun i j => .bl (g i j)) := by
  intro pins s σ H x y v u Q I rx ry h
  obtain ⟨i, j, rfl, rfl, q⟩ := h
  obtain ⟨t, rfl⟩ := rx
  obtain ⟨t', rfl⟩ := ry
  exact rule i j t t' s _ _ ⟨.bl (g i j), H, I, rfl, q⟩
def CMul (i j : Int) : Prop := (-(2 ^ 64) < i ∧ i < 2 ^ 64) ∨ (-(2 ^ 64) < j ∧ j < 2 ^ 64)
theorem CMul.ok {i j : Int} (h : CMul i j) : IntMulOk i j := by
  rcases h with ⟨h1, h2⟩ | ⟨h1, h2⟩
  · exact .of_left (intBits_le_64 h1 h2)
  · exact .of_right (intBits_le_64 h1 h2)
theorem op_add : OpR X (binaryOp .Add) (rI0 fun i j => .int (i + j)) := opI0 fun _ _ _ _ _ _ _ q => add_int q
theorem op_sub : OpR X (binaryOp .Sub) (rI0 fun i j => .int (i - j)) := opI0 fun _ _ _ _ _ _ _ q => sub_int q
theorem op_mul : OpR X (binaryOp .Mult) (rI CMul fun i j => .int (i * j)) := opI fun _ _ _ _ _ _ _ hc q => mul_int q hc.ok
theorem op_mod : OpR X (binaryOp .Mod) (rI (fun _ j => 0 < j) fun i j => .int (i % j)) := opI fun i j _ _ _ _ _ hc q => by
  have h1 : (0 : Int) < j := hc
  exact mod_int' (by omega) (by rw [Int.fmod_eq_emod_of_nonneg i (by omega)]; exact q)
theorem unI {f : Value → Sem Value} {g : Int → Int}
    (rule : ∀ (i : Int) (t : Tok) (s : Shared) (Q : Value → Shared → Prop) (E : Value → Shared → Prop), Q (.int (g i) s.toks) { s with toks := s.toks + 1 } → wpAny (model X.prog X.w) X.A (f (.int i t)) Q E s) :
    UnR X f (rU fun i => .int (g i)) := by
  intro pins s σ H x v Q I rx h
  obtain ⟨i, rfl, q⟩ := h
  obtain ⟨t, rfl⟩ := rx
  exact rule i t s _ _ ⟨.int (g i), H, I.tok _, ⟨_, rfl⟩, q⟩
theorem un_neg : UnR X (unaryOp .USub) (rU fun i => .int (-i)) := unI fun _ _ _ _ _ q => neg_int q
end
def scal : V → V → Bool
  | .non, .non => true | .non, .int _ => true | .int _, .non => true | .non, .bl _ => true | .bl _, .non => true | .non, .str _ => true | .str _, .non => true
  | .int _, .int _ => true | .bl _, .bl _ => true | .str _, .str _ => true | .byt _, .byt _ => true
  | .int _, .str _ => true | .str _, .int _ => true | .bl _, .str _ => true | .str _, .bl _ => true
  | _, _ => false
def rEq : R2 := fun x y H Q => scal x y = true ∧ Q (.bl (decide (x = y))) H
def rNe : R2 := fun x y H Q => scal x y = true ∧ Q (.bl (!decide (x = y))) H
theorem dec_int {i j : Int} : decide (V.int i = V.int j) = (i == j) := by
  rw [Bool.eq_iff_iff]
  simp
theorem dec_bl {i j : Bool} : decide (V.bl i = V.bl j) = (i == j) := by
  rw [Bool.eq_iff_iff]
  simp
theorem dec_str {i j : Str} : decide (V.str i = V.str j) = (i == j) := by
  rw [Bool.eq_iff_iff]
  simp
theorem dec_byt {i j : Array UInt8} : decide (V.byt i = V.byt j) = (i.toList == j.toList) := by
  rw [Bool.eq_iff_iff]
  cases i
  cases j
  simp
section
variable {X : Cx} {a b c : Expr} {ta tb tc : TE} {pos : Pos}
theorem fin_bl {pins : List (Addr × Obj)} {σ : St} {H : Hp} {s : Shared} {Q : VK} {k k' : Bool} (I : Inv X pins σ H s) (q : Q (.bl k) H) (e : k = k') : EP X pins σ Q (.bool k') s := by
  subst e
  exact ⟨.bl k, H, I, rfl, q⟩
theorem op_eq : OpR X (compareOp .Eq) rEq := by
  intro pins s σ H x y v u Q I rx ry h
  obtain ⟨hs, q⟩ := h
  cases x with
  | non =>
    cases rx
    cases y with
    | non => cases ry; exact PySem.EqNone.eq_none_none (fin_bl I q (by simp))
    | bl j => cases ry; exact PySem.EqNone.eq_none_bool (fin_bl I q (by simp))
    | int j => obtain ⟨t', rfl⟩ := ry; exact PySem.EqNone.eq_none_int (fin_bl I q (by simp))
    | str j => obtain ⟨t', rfl⟩ := ry; exact PySem.EqNone.eq_none_str (fin_bl I q (by simp))
    | _ => exact absurd (show false = true from hs) Bool.false_ne_true
  | bl i =>
    cases rx
    cases y with
    | non => cases ry; exact PySem.EqNone.eq_bool_none (fin_bl I q (by simp))
    | bl j => cases ry; exact eq_bool (fin_bl I q dec_bl)
    | str j => obtain ⟨t', rfl⟩ := ry; exact PySem.EqMixed.eq_bool_str (fin_bl I q (by simp))
    | _ => exact absurd (show false = true from hs) Bool.false_ne_true
  | int i =>
    obtain ⟨t, rfl⟩ := rx
    cases y with
    | non => cases ry; exact PySem.EqNone.eq_int_none (fin_bl I q (by simp))
    | int j => obtain ⟨t', rfl⟩ := ry; exact eq_int (fin_bl I q dec_int)
    | str j => obtain ⟨t', rfl⟩ := ry; exact PySem.EqMixed.eq_int_str (fin_bl I q (by simp))
    | _ => exact absurd (show false = true from hs) Bool.false_ne_true
  | str i =>
    obtain ⟨t, rfl⟩ := rx
    cases y with
    | non => cases ry; exact PySem.EqNone.eq_str_none (fin_bl I q (by simp))
    | bl j => cases ry; exact PySem.EqMixed.eq_str_bool (fin_bl I q (by simp))
    | int j => obtain ⟨t', rfl⟩ := ry; exact PySem.EqMixed.eq_str_int (fin_bl I q (by simp))
    | str j => obtain ⟨t', rfl⟩ := ry; exact eq_str (fin_bl I q dec_str)
    | _ => exact absurd (show false = true from hs) Bool.false_ne_true
  | byt i =>
    obtain ⟨t, rfl⟩ := rx
    cases y with
    | byt j => obtain ⟨t', rfl⟩ := ry; exact PySem.W.eq_bytes (fin_bl I q dec_byt)
    | _ => exact absurd (show false = true from hs) Bool.false_ne_true
  | _ => cases y <;> exact absurd (show false = true from hs) Bool.false_ne_true
theorem op_ne : OpR X (compareOp .NotEq) rNe := by
  intro pins s σ H x y v u Q I rx ry h
  obtain ⟨hs, q⟩ := h
  cases x with
  | non =>
    cases rx
    cases y with
    | non => cases ry; exact PySem.EqNone.ne_none_none (fin_bl I q (by simp))
    | bl j => cases ry; exact PySem.EqNone.ne_none_bool (fin_bl I q (by simp))
    | int j => obtain ⟨t', rfl⟩ := ry; exact PySem.EqNone.ne_none_int (fin_bl I q (by simp))
    | str j => obtain ⟨t', rfl⟩ := ry; exact PySem.EqNone.ne_none_str (fin_bl I q (by simp))
    | _ => exact absurd (show false = true from hs) Bool.false_ne_true
  | bl i =>
    cases rx
    cases y with
    | non => cases ry; exact PySem.EqNone.ne_bool_none (fin_bl I q (by simp))
    | bl j => cases ry; exact ne_bool (fin_bl I q (congrArg not dec_bl))
    | str j => obtain ⟨t', rfl⟩ := ry; exact PySem.EqMixed.ne_bool_str (fin_bl I q (by simp))
    | _ => exact absurd (show false = true from hs) Bool.false_ne_true
  | int i =>
    obtain ⟨t, rfl⟩ := rx
    cases y with
    | non => cases ry; exact PySem.EqNone.ne_int_none (fin_bl I q (by simp))
    | int j => obtain ⟨t', rfl⟩ := ry; exact ne_int (fin_bl I q (congrArg not dec_int))
    | str j => obtain ⟨t', rfl⟩ := ry; exact PySem.EqMixed.ne_int_str (fin_bl I q (by simp))
    | _ => exact absurd (show false = true from hs) Bool.false_ne_true
  | str i =>
    obtain ⟨t, rfl⟩ := rx
    cases y with
    | non => cases ry; exact PySem.EqNone.ne_str_none (fin_bl I q (by simp))
    | bl j => cases ry; exact PySem.EqMixed.ne_str_bool (fin_bl I q (by simp))
    | int j => obtain ⟨t', rfl⟩ := ry; exact PySem.EqMixed.ne_str_int (fin_bl I q (by simp))
    | str j => obtain ⟨t', rfl⟩ := ry; exact ne_str (fin_bl I q (congrArg not dec_str))
    | _ => exact absurd (show false = true from hs) Bool.false_ne_true
  | byt i =>
    obtain ⟨t, rfl⟩ := rx
    cases y with
    | byt j => obtain ⟨t', rfl⟩ := ry; exact PySem.W.ne_bytes (fin_bl I q (congrArg not dec_byt))
    | _ => exact absurd (show false = true from hs) Bool.false_ne_true
  | _ => cases y <;> exact absurd (show false = true from hs) Bool.false_ne_true
theorem op_lt : OpR X (compareOp .Lt) (rI0 fun i j => .bl (decide (i < j))) := opB0 fun _ _ _ _ _ _ _ q => lt_int q
theorem op_le : OpR X (compareOp .LtE) (rI0 fun i j => .bl (decide (i ≤ j))) := opB0 fun _ _ _ _ _ _ _ q => le_int q
theorem op_gt : OpR X (compareOp .Gt) (rI0 fun i j => .bl (decide (j < i))) := opB0 fun _ _ _ _ _ _ _ q => gt_int q
theorem nomark (b : Expr) {op : CmpOp} (h : op ≠ .In := by decide) (h2 : op ≠ .NotIn := by decide) : behindInMarks op b = false := by
  have e1 : (op == CmpOp.In) = false := by cases op <;> first | rfl | exact absurd rfl h
  have e2 : (op == CmpOp.NotIn) = false := by cases op <;> first | rfl | exact absurd rfl h2
  cases b <;> simp [behindInMarks, e1, e2]
theorem pe_cmpR {op : CmpOp} {r : R2} (ho : OpR X (compareOp op) r) (ha : PE X a ta) (hb : PE X b tb) (hm : behindInMarks op b = false) : PE X (.Compare a [op] [b] pos) (tOp r ta tb) := by
  intro pins s σ H Q I h
  exact wpAny_Compare1 (binT ha hb I h fun v u s2 x y H2 I2 rx ry q => ho pins s2 σ H2 x y v u Q I2 rx ry q) hm
def tTest (t : TE) : TT := fun σ H Q => t σ H fun x H' => ∃ k, x = .bl k ∧ Q k H'
theorem pt_cmpR {op : CmpOp} {r : R2} (ho : OpR X (compareOp op) r) (ha : PE X a ta) (hb : PE X b tb) (hm : behindInMarks op b = false) : PT X (.Compare a [op] [b] pos) (tTest (tOp r ta tb)) := by
  intro pins s σ H Q I h
  refine wpAny_isTrue_Compare1 (thn (ha pins s σ H _ I h) fun v s1 ⟨x, H1, I1, r1, q1⟩ => thn (hb pins s1 σ H1 _ I1 q1) fun u s2 ⟨y, H2, I2, r2, q2⟩ =>
    thn (ho pins s2 σ H2 x y v u _ I2 r1 r2 q2) fun c s3 ⟨z, H3, I3, r3, k, e, q3⟩ => ?_) hm
  subst e
  cases r3
  exact wpAny_truthy_bool ⟨H3, I3, q3⟩
def tChain (r r' : R2) (ta tb tc : TE) : TE := fun σ H Q => ta σ H fun x H1 => tb σ H1 fun y H2 => r x y H2 fun z H3 => ∃ k, z = .bl k ∧
  (if k = true then tc σ H3 fun w' H4 => r' y w' H4 Q else Q (.bl false) H3)
theorem pe_chain {op op' : CmpOp} {r r' : R2} (ho : OpR X (compareOp op) r) (ho' : OpR X (compareOp op') r') (ha : PE X a ta) (hb : PE X b tb) (hc : PE X c tc)
    (hm : lastMarks [op, op'] [b, c] = false := by with_unfolding_all rfl) : PE X (.Compare a [op, op'] [b, c] pos) (tChain r r' ta tb tc) := by
  intro pins s σ H Q I h
  refine Compare_chain (thn (ha pins s σ H _ I h) fun v s1 ⟨x, H1, I1, r1, q1⟩ => chain_link (thn (hb pins s1 σ H1 _ I1 q1) fun u s2 ⟨y, H2, I2, r2, q2⟩ =>
    thn (ho pins s2 σ H2 x y v u _ I2 r1 r2 q2) fun d s3 ⟨z, H3, I3, r3, k, e, q3⟩ => ?_)) hm
  subst e
  cases r3
  refine wpAny_truthy_bool ?_
  cases k with
  | false => exact ite_ff ⟨.bl false, H3, I3, rfl, q3⟩
  | true => exact ite_tt (chain_last (thn (hc pins s3 σ H3 _ I3 q3) fun w' s4 ⟨z', H4, I4, r4, q4⟩ => ho' pins s4 σ H4 y z' u w' Q I4 r2 r4 q4))
theorem pt_chain {op op' : CmpOp} {r r' : R2} (ho : OpR X (compareOp op) r) (ho' : OpR X (compareOp op') r') (ha : PE X a ta) (hb : PE X b tb) (hc : PE X c tc)
    (hm : lastMarks [op, op'] [b, c] = false := by with_unfolding_all rfl) : PT X (.Compare a [op, op'] [b, c] pos) (tTest (tChain r r' ta tb tc)) := by
  intro pins s σ H Q I h
  refine isTrue_chain (thn (ha pins s σ H _ I h) fun v s1 ⟨x, H1, I1, r1, q1⟩ => test_link (thn (hb pins s1 σ H1 _ I1 q1) fun u s2 ⟨y, H2, I2, r2, q2⟩ =>
    thn (ho pins s2 σ H2 x y v u _ I2 r1 r2 q2) fun d s3 ⟨z, H3, I3, r3, k, e, q3⟩ => ?_)) hm
  subst e
  cases r3
  refine wpAny_truthy_bool ?_
  cases k with
  | false =>
    obtain ⟨k', e', q'⟩ := q3
    cases e'
    exact ite_ff ⟨H3, I3, q'⟩
  | true =>
    refine ite_tt (test_last (thn (hc pins s3 σ H3 _ I3 q3) fun w' s4 ⟨z', H4, I4, r4, q4⟩ => thn (ho' pins s4 σ H4 y z' u w' _ I4 r2 r4 q4) fun d' s5 ⟨z2, H5, I5, r5, k2, e2, q5⟩ => ?_))
    subst e2
    cases r5
    exact wpAny_truthy_bool ⟨H5, I5, q5⟩
theorem line63 : (sizeLine : Nat) < 2 ^ 63 := by rw [sizeLine_eq]; decide
theorem vals1 {x : V} {us : List Value} (r : Vals [x] us) : ∃ u, us = [u] ∧ RelV x u := by
  cases r with
  | cons r1 r2 => cases r2; exact ⟨_, rfl, r1⟩
theorem vals2 {x y : V} {us : List Value} (r : Vals [x, y] us) : ∃ u w', us = [u, w'] ∧ RelV x u ∧ RelV y w' := by
  cases r with
  | cons r1 r2 =>
    cases r2 with
    | cons r3 r4 => cases r4; exact ⟨_, _, rfl, r1, r3⟩
theorem call_int1 : CallR X (.type "int") (fun xs H Q => (∃ i, xs = [.int i] ∧ Q (.int i) H) ∨ ∃ k, xs = [.bl k] ∧ Q (.int (if k then 1 else 0)) H) := by
  intro pins s σ H xs us Q I r h
  rcases h with ⟨i, rfl, q⟩ | ⟨k, rfl, q⟩
  · obtain ⟨u, rfl, t, rfl⟩ := vals1 r
    exact call_int_int ⟨.int i, H, I, ⟨_, rfl⟩, q⟩
  · obtain ⟨u, rfl, r1⟩ := vals1 r
    cases r1
    exact call_int_bool ⟨.int (if k then 1 else 0), H, I.tok _, ⟨_, rfl⟩, q⟩
end
end L2
namespace L2
open PySem PySem.Spec PyProof.Rows
structure ObjM (h : Heap) (x dx C : Addr) (mA : Str → Option Value) : Prop where
  obj : h.get? x = some (PySem.W.instObj C dx)
  ns : h.Ns1 dx mA
  ne : dx ≠ x
theorem lookIn_ns {h : Heap} {dx : Addr} {mA : Str → Option Value} (n : h.Ns1 dx mA) : ∃ od, h.get? dx = some od ∧ ∀ name, PySem.W.lookIn name od = some (mA name) := by
  obtain ⟨o, es, ep, ho, hd, hk, _, hm⟩ := n
  refine ⟨o, ho, fun name => ?_⟩
  have e := hm name
  unfold nsFind findBy at e
  rw [← Array.find?_toList] at e
  unfold PySem.W.lookIn
  rw [hd]
  dsimp only
  split
  · rename_i y q
    rw [q] at e
    exact congrArg some e
  · rename_i q
    rw [q] at e
    have a : es.toList.any (·.refKey) = false := by
      rw [List.any_eq_false]
      intro y hy
      obtain ⟨z, t, hkey⟩ := hk y (Array.mem_toList_iff.mp hy)
      simp [DictEntry.refKey, hkey]
    have a' : ¬ es.toList.any (·.refKey) = true := by rw [a]; exact Bool.false_ne_true
    rw [if_neg a']
    exact congrArg some e
theorem ObjM.look {h : Heap} {x dx C : Addr} {mA : Str → Option Value} (I : ObjM h x dx C mA) : ∃ od, PySem.W.InstAt h x (PySem.W.instObj C dx) C (some od) ∧ ∀ name, PySem.W.lookIn name od = some (mA name) :=
  let ⟨od, ho, hl⟩ := lookIn_ns I.ns
  ⟨od, ⟨I.obj, rfl, rfl, ho⟩, hl⟩
section
variable {prog : Program} {w : World} {A : Around} {E : Value → Shared → Prop} {s : Shared} {K : PySem.W.Frag} {x dx C f : Addr} {mA : Str → Option Value} {name : Str} {v : Value}
end
theorem RelO.some_of {v : V} {o : Option Value} (r : RelO (some v) o) : ∃ u, o = some u ∧ RelV v u := by
  cases o with
  | none => exact (show False from r).elim
  | some u => exact ⟨u, rfl, r⟩
section
variable {P : Program} {w : World} {H H' : Hp} {h h' : Heap} {a C dx : Addr} {fs fs' : List (Str × V)}
theorem ins_get (hok : HOk P w H h) (e : H a = some (.ins C dx fs)) : ∃ mA, ObjM h a dx C mA ∧ (∀ f, RelO (fs.lookup f) (mA f)) ∧ PySem.Within mA (fs.map (·.1)) ∧ fs.length ≤ 1000 ∧ H dx = some (.own a) := by
  obtain ⟨d, z, ne, ob, mA, n, r, q⟩ := (show ObjOk P w H h a (.ins C dx fs) from hok a _ e)
  exact ⟨mA, ⟨ob, n, ne⟩, r, q, z, d⟩
end
structure Cls (K : PySem.W.Frag) (C : Addr) : Prop where
  pg : PySem.W.plainGet K C Str.empty = true
  hd : PySem.W.hasDictIn K C = true
  po : PySem.W.plainOver K C = true
  sa : PySem.W.findIn K (.ref C) "__setattr__" = some (some (.builtin "object.__setattr__"))
theorem Cls.get {K : PySem.W.Frag} {C : Addr} (c : Cls K C) (f : Str) : PySem.W.plainGet K C f = true := c.pg
section
variable {X : Cx} {pins : List (Addr × Obj)} {σ : St} {H : Hp} {s : Shared} {a C dx : Addr} {fs : List (Str × V)} {f : Str} {v : V} {A : Around} {E : Value → Shared → Prop}
theorem Inv.made (I : Inv X pins σ H s) : Inv X pins σ (upd (upd H s.heap.objs.size (.own (s.heap.objs.size + 1))) (s.heap.objs.size + 1) (.ins C s.heap.objs.size []))
    { s with heap := (s.heap.push PySem.W.emptyDict).push (PySem.W.instObj C s.heap.objs.size) } := by
  have e1 : (s.heap.push PySem.W.emptyDict).get? s.heap.objs.size = some PySem.W.emptyDict := Heap.get?_push_size s.heap rfl
  have e2 : ((s.heap.push PySem.W.emptyDict).push (PySem.W.instObj C s.heap.objs.size)).get? (s.heap.objs.size + 1) = some (PySem.W.instObj C s.heap.objs.size) := by
    have := Heap.get?_push_size (s.heap.push PySem.W.emptyDict) (o := PySem.W.instObj C s.heap.objs.size) rfl
    rwa [Heap.size_push] at this
  have e3 : (s.heap.push PySem.W.emptyDict).Ns s.heap.objs.size (fun _ => none) := ⟨PySem.W.emptyDict, #[], _, e1, rfl, (fun e he => absurd he (by simp)), fun _ => rfl⟩
  have I1 := I.laid (a := s.heap.objs.size) (o := .own (s.heap.objs.size + 1)) (h' := s.heap.push PySem.W.emptyDict) (t' := s.toks) (fun b u q => Heap.get?_push_of_some _ q) (Nat.le_refl _) ⟨_, e1⟩
  refine I1.laid (a := s.heap.objs.size + 1) (o := .ins C s.heap.objs.size []) (t' := s.toks) (fun b u q => Heap.get?_push_of_some _ q) (Nat.le_of_eq (Heap.size_push _ _)) ?_
  have ne : s.heap.objs.size ≠ s.heap.objs.size + 1 := Nat.ne_of_lt (Nat.lt_succ_self _)
  refine ⟨by rw [upd_ne ne, upd_same], Nat.zero_le _, ne, e2, fun _ => none, (Heap.Ns1.of_empty e3).at fun o q => Heap.get?_push_of_some _ q, fun _ => True.intro, fun y hy => absurd rfl hy⟩
end
section
variable {X : Cx} {o e value : Expr} {f : Str} {pos pos' tpos : Pos} {ta tv : TE}
end
section
variable {X : Cx} {pins : List (Addr × Obj)} {σ : St} {H : Hp} {s : Shared} {A : Around} {E : Value → Shared → Prop} {Q : Value → Shared → Prop} {c : Value} {b : Bool}
inductive TyOf (K : PySem.W.Frag) (H : Hp) : V → Value → Prop where
  | non : TyOf K H .non (.type "NoneType")
  | bl (x : Bool) : TyOf K H (.bl x) (.type "bool")
  | int (i : Int) : TyOf K H (.int i) (.type "int")
  | str (x : Str) : TyOf K H (.str x) (.type "str")
  | flt (x : UInt64) : TyOf K H (.flt x) (.type "float")
  | lst {a : Addr} {xs : List V} (e : H a = some (.lst xs)) : TyOf K H (.ref a) (.type "list")
  | frz {a : Addr} {o : Obj} {xs : List V} (e : H a = some (.frz o (.lst xs))) : TyOf K H (.ref a) (.type "list")
  | tup {a : Addr} {xs : List V} (e : H a = some (.tup xs)) : TyOf K H (.ref a) (.type "tuple")
  | dK {a : Addr} {kvs : List (Key × V)} (e : H a = some (.dK kvs)) : TyOf K H (.ref a) (.type "dict")
  | dT {a : Addr} {kvs : List (List Key × V)} (e : H a = some (.dT kvs)) : TyOf K H (.ref a) (.type "dict")
  | ins {a C dx : Addr} {fs : List (Str × V)} (e : H a = some (.ins C dx fs)) (cl : Cls K C) (ha : PySem.W.findIn K (.ref C) "__class__" = some (some (.builtin "object.__class__")))
      (hn : PySem.W.specialIn K (.builtin "object.__class__") "__get__" = some (some (.builtin "getset_descriptor.__get__"))) (htk : PySem.W.takesIn K (.builtin "object.__class__") = some true)
      (hm : PySem.W.mroIn K C (.type "object") = some true) : TyOf K H (.ref a) (.ref C)
theorem isinst_ok {x : V} {u t : Value} (I : Inv X pins σ H s) (rx : RelV x u) (ty : TyOf X.K H x t) (e : PySem.W.kitOne X.K t c = some b) (h : ∀ tk, Q (.bool b) { s with toks := tk }) :
    wpAny (model X.prog X.w) A (call (.builtin "isinstance") [u, c]) Q E s := by
  cases ty with
  | non => cases (show u = Value.none from rx); exact PySem.W.kia_one PySem.W.kitx_none I.kIn True.intro e (fun z => nomatch z) h
  | bl y => cases (show u = Value.bool y from rx); exact PySem.W.kia_one PySem.W.kitx_bool I.kIn True.intro e (fun z => nomatch z) h
  | int i => obtain ⟨t, q⟩ := (show ∃ t, u = Value.int i t from rx); cases q; exact PySem.W.kia_one PySem.W.kitx_int I.kIn True.intro e (fun z => nomatch z) h
  | str y => obtain ⟨t, q⟩ := (show ∃ t, u = Value.str y t from rx); cases q; exact PySem.W.kia_one PySem.W.kitx_str I.kIn True.intro e (fun z => nomatch z) h
  | flt y => obtain ⟨t, q⟩ := (show ∃ t, u = Value.float y t from rx); cases q; exact PySem.W.kia_one PySem.W.kitx_float I.kIn True.intro e (fun z => nomatch z) h
  | @lst a xs ea =>
    cases (show u = Value.ref a from rx)
    obtain ⟨_, _, n, _, h1⟩ := (show ObjOk X.prog X.w H s.heap a (.lst xs) from I.hok a _ ea)
    exact PySem.W.kia_one PySem.W.kitx_list I.kIn ⟨_, h1, rfl⟩ e (fun z => nomatch z) h
  | @frz a ob xs ea =>
    cases (show u = Value.ref a from rx)
    obtain ⟨_, _, _, n, _, h1⟩ := (show ObjOk X.prog X.w H s.heap a (.frz ob (.lst xs)) from I.hok a _ ea)
    exact PySem.W.kia_one PySem.W.kitx_list I.kIn ⟨_, h1, rfl⟩ e (fun z => nomatch z) h
  | @tup a xs ea =>
    cases (show u = Value.ref a from rx)
    obtain ⟨_, _, _, p⟩ := (show ObjOk X.prog X.w H s.heap a (.tup xs) from I.hok a _ ea)
    obtain ⟨o, h1, h2, _⟩ := p
    exact PySem.W.kia_one PySem.W.kitx_tuple I.kIn ⟨o, h1, h2⟩ e (fun z => nomatch z) h
  | @dK a kvs ea =>
    cases (show u = Value.ref a from rx)
    obtain ⟨_, _, vs, _, p⟩ := (show ObjOk X.prog X.w H s.heap a (.dK kvs) from I.hok a _ ea)
    obtain ⟨o, es, ep, h1, h2, _⟩ := p
    exact PySem.W.kia_one PySem.W.kitx_dict I.kIn ⟨o, h1, h2.1⟩ e (fun z => nomatch z) h
  | @dT a kvs ea =>
    cases (show u = Value.ref a from rx)
    obtain ⟨_, _, xs, _, o, es, ep, h1, h2, _⟩ := (show ObjOk X.prog X.w H s.heap a (.dT kvs) from I.hok a _ ea)
    exact PySem.W.kia_one PySem.W.kitx_dict I.kIn ⟨o, h1, h2.1⟩ e (fun z => nomatch z) h
  | @ins a C dx fs ea cl ha hn htk hm =>
    cases (show u = Value.ref a from rx)
    obtain ⟨mA, O, _⟩ := ins_get I.hok ea
    obtain ⟨od, J, _⟩ := O.look
    exact PySem.W.kia_one (PySem.W.kitx_own (cl.get _) cl.hd ha hn htk hm) I.kIn J e (fun z => nomatch z) h
end
end L2
namespace L2
open PySem PySem.Spec PyProof.Rows
structure Room (k : Nat) (A : Around) : Prop where
  hd : A.handled = none
  dp : A.depth + 3 * k + 5 < recursionLimit
  un : A.units + 16 * k + 200 < cLine
theorem Room.mono {j k : Nat} {A : Around} (r : Room k A) (h : j ≤ k) : Room j A := ⟨r.hd, by have := r.dp; omega, by have := r.un; omega⟩
theorem Room.deeper {k : Nat} {A : Around} (r : Room (k + 1) A) (env : Env) : Room k (A.deeper env) :=
  ⟨r.hd, by have := r.dp; show A.depth + 1 + 3 * k + 5 < _; omega, by have := r.un; show A.units + 3 + 16 * k + 200 < _; omega⟩
theorem Room.in1 {k : Nat} {A : Around} (r : Room (k + 1) A) : Room k A.in1 :=
  ⟨r.hd, by have := r.dp; show A.depth + 3 * k + 5 < _; omega, by have := r.un; show A.units + 1 + 16 * k + 200 < _; omega⟩
theorem Room.depth {k : Nat} {A : Around} (r : Room k A) : A.depth < recursionLimit := by have := r.dp; omega
theorem Room.units {k : Nat} {A : Around} (r : Room k A) : A.units + 64 < cLine := by have := r.un; omega
def tNil : TA := fun _ H Q => Q [] H
def tCons (ta : TE) (tr : TA) : TA := fun σ H Q => ta σ H fun x H1 => tr σ H1 fun xs H2 => Q (x :: xs) H2
section
variable {X : Cx} {e : Expr} {es : List Expr} {te : TE} {t : TA} {pos : Pos}
theorem pa_nil : PA X [] tNil := fun _ _ _ _ H Q I h => Calls.spliced_nil ⟨[], H, I, .nil, h⟩
theorem pa_cons (ha : PE X e te) (hr : PA X es t) (hs : starEach (e :: es) X.env = (false, eval e X.env) :: starEach es X.env := by rfl) : PA X (e :: es) (tCons te t) := by
  intro pos pins s σ H Q I h
  rw [hs]
  show wpAny _ _ (spliced ((false, eval e X.env) :: backTo pos (starEach es X.env))) _ _ s
  refine Calls.spliced_cons (thn (ha pins s σ H _ I h) fun u s1 ⟨x, H1, I1, r1, q1⟩ => ?_)
  exact thn (hr pos pins s1 σ H1 _ I1 q1) fun us s2 ⟨xs, H2, I2, r2, q2⟩ => ⟨x :: xs, H2, I2, .cons r1 r2, q2⟩
def tTup (t : TA) : TE := fun σ H Q => t σ H fun xs H1 => xs.length ≤ sizeLine ∧ ∀ p, H1 p = none → Q (.ref p) (upd H1 p (.tup xs))
def tLst (t : TA) : TE := fun σ H Q => t σ H fun xs H1 => xs.length ≤ sizeLine ∧ ∀ p, H1 p = none → Q (.ref p) (upd H1 p (.lst xs))
theorem pe_tup {x1} (h : PA X es t) : PE X (.Tuple es x1 pos) (tTup t) := by
  intro pins s σ H Q I hq
  refine wpAny_Tuple_spliced (thn (h pos pins s σ H _ I hq) fun us s1 ⟨xs, H1, I1, r, z, q⟩ => ⟨by rw [← r.length]; exact z, ?_⟩)
  have hf : H1 s1.heap.objs.size = none := I1.hok.fresh (Nat.le_refl _)
  refine ⟨.ref s1.heap.objs.size, upd H1 s1.heap.objs.size (.tup xs), I1.laid (t' := s1.toks) (fun b u e => Heap.get?_push_of_some _ e) (Nat.le_refl _) ?_, rfl, q _ hf⟩
  exact ⟨z, us, r, ⟨_, Heap.get?_push_size _ rfl, rfl, _, rfl⟩⟩
theorem pe_lst (h : PA X es t) : PE X (.List es pos) (tLst t) := by
  intro pins s σ H Q I hq
  refine wpAny_List_spliced (thn (h pos pins s σ H _ I hq) fun us s1 ⟨xs, H1, I1, r, z, q⟩ => ⟨by rw [← r.length]; exact z, ?_⟩)
  have hf : H1 s1.heap.objs.size = none := I1.hok.fresh (Nat.le_refl _)
  refine ⟨.ref s1.heap.objs.size, upd H1 s1.heap.objs.size (.lst xs), I1.laid (t' := s1.toks) (fun b u e => Heap.get?_push_of_some _ e) (Nat.le_refl _) ?_, rfl, q _ hf⟩
  exact ⟨z, us, 0, r, Heap.get?_push_size _ rfl⟩
end
abbrev Sp := List V → Hp → VK → XK → Prop
abbrev CXT := List Env → Hp → Shared → XK → Value → Shared → Prop
structure Env0 (P : Program) (w : World) (K : PySem.W.Frag) (mg : Str → Option Value) (base : Heap) (A : Around) (outer : List Env) (s : Shared) (H : Hp) : Prop where
  frames : A.frames = some outer
  mod : Mod K mg base
  bs : ∀ b o, base.get? b = some o → s.heap.get? b = some o ∧ H b = none
  bsz : base.objs.size ≤ s.heap.objs.size
  funs : s.heap.FunFrames base outer
  frf : ∀ b ∈ frs outer, H b = none
  hok : HOk P w H s.heap
  bare : AllBare s.gens
def CE (outer : List Env) (P : Program) (w : World) (H : Hp) (s : Shared) (Q : VK) (u : Value) (s' : Shared) : Prop :=
  ∃ v H', s'.os = s.os ∧ AllBare s'.gens ∧ Un (frs outer) [] H H' s.heap s'.heap ∧ HOk P w H' s'.heap ∧ RelV v u ∧ Q v H'
def CR (CX : CXT) (outer : List Env) (P : Program) (w : World) (H : Hp) (s : Shared) (Q : VK) (E : XK) (r : Result) (s' : Shared) : Prop :=
  match r with
  | .ok (.ret u) => CE outer P w H s Q u s'
  | .ok _ => False
  | .error e => CX outer H s E e s'
structure FnOk (P : Program) (w : World) (K : PySem.W.Frag) (mg : Str → Option Value) (base : Heap) (CX : CXT) (k : Nat) (f : Addr) (fd : FuncData) (ps : List Str) (sp : Sp) : Prop where
  len : ∀ vs H Q E, sp vs H Q E → vs.length = ps.length
  run : ∀ (A : Around) (outer : List Env) (s : Shared) (H : Hp) (args : Args) (us : List Value) (vs : List V) (Q : VK) (E : XK), Room k A → Env0 P w K mg base A outer s H → BindsTo s fd args (ps.zip us) → Vals vs us → sp vs H Q E →
    codeAny (model P w) A (.call (.ref f) args) (CR CX outer P w H s Q E) s
theorem FnOk.mono {P : Program} {w : World} {K : PySem.W.Frag} {mg : Str → Option Value} {base : Heap} {CX : CXT} {j k : Nat} {f : Addr} {fd : FuncData} {ps : List Str} {sp : Sp} (F : FnOk P w K mg base CX j f fd ps sp) (h : j ≤ k) :
    FnOk P w K mg base CX k f fd ps sp := ⟨F.len, fun A outer s H args us vs Q E hr => F.run A outer s H args us vs Q E (hr.mono h)⟩
theorem FnOk.imp {P : Program} {w : World} {K : PySem.W.Frag} {mg : Str → Option Value} {base : Heap} {CX : CXT} {k : Nat} {f : Addr} {fd : FuncData} {ps : List Str} {sp sp' : Sp} (F : FnOk P w K mg base CX k f fd ps sp)
    (h : ∀ vs H Q E, sp' vs H Q E → sp vs H Q E) : FnOk P w K mg base CX k f fd ps sp' :=
  ⟨fun vs H Q E q => F.len vs H Q E (h _ _ _ _ q), fun A outer s H args us vs Q E hr he hb hv hs => F.run A outer s H args us vs Q E hr he hb hv (h _ _ _ _ hs)⟩
theorem Env0.in1 {P : Program} {w : World} {K : PySem.W.Frag} {mg : Str → Option Value} {base : Heap} {A : Around} {outer : List Env} {s : Shared} {H : Hp} (e : Env0 P w K mg base A outer s H) :
    Env0 P w K mg base A.in1 outer s H := ⟨e.frames, e.mod, e.bs, e.bsz, e.funs, e.frf, e.hok, e.bare⟩
section
variable {X : Cx} {pins : List (Addr × Obj)} {σ : St} {H : Hp} {s s' : Shared}
theorem Inv.env0 (I : Inv X pins σ H s) : Env0 X.prog X.w X.K X.mg X.base X.A X.stack s H :=
  ⟨I.ok.frames, I.ok.mod, I.bs, Nat.le_trans I.ok.bsz I.sz, I.stack, I.stkFree, I.hok, I.bare⟩
theorem Inv.after {Q : VK} {u : Value} (I : Inv X pins σ H s) (h : CE X.stack X.prog X.w H s Q u s') : EP X pins σ Q u s' := by
  obtain ⟨v, H', os, bare, un, hok, r, q⟩ := h
  obtain ⟨hh, g, d, t, os'⟩ := s'
  obtain rfl : os' = s.os := os
  exact ⟨v, H', I.call (h' := hh) (g' := g) (d' := d) (t' := t) (ch := []) un hok bare (fun b z => absurd z (by simp)), r, q⟩
end
def tCall (sp : Sp) (dvs : List V) (E : XK) (t : TA) : TE := fun σ H Q => t σ H fun vs H1 => sp (vs ++ dvs) H1 Q E
def Binds (K : PySem.W.Frag) (fd : FuncData) (ps : List Str) (ds : List Value) : Prop :=
  ∀ (s : Shared) (us : List Value), K.In s.heap → (us ++ ds).length = ps.length → BindsTo s fd ⟨us, []⟩ (ps.zip (us ++ ds))
theorem Binds.all {K : PySem.W.Frag} {fd : FuncData} {ps : List Str} (h : ∀ us : List Value, us.length = ps.length → bindArgs fd ⟨us, []⟩ = pure (ps.zip us)) : Binds K fd ps [] := fun s us _ hl => by
  rw [List.append_nil] at hl ⊢
  exact .of_eq (h us hl)
def Passes (CX : CXT) (X : Cx) (E : XK) : Prop := ∀ (pins : List (Addr × Obj)) (σ : St) (H : Hp) (s : Shared) (e : Value) (s' : Shared), Inv X pins σ H s → CX X.stack H s E e s' → X.xe e s'
section
variable {X : Cx} {CX : CXT} {k : Nat} {f C : Addr} {fd : FuncData} {ps : List Str} {sp : Sp} {dvs : List V} {ds : List Value} {E : XK} {x m : Str} {p pos apos : Pos} {e o : Expr} {es : List Expr} {ta : TE} {t : TA}
theorem run_fn {pins : List (Addr × Obj)} {σ : St} {H : Hp} {s : Shared} {Q : VK} {us : List Value} {vs : List V} (F : FnOk X.prog X.w X.K X.mg X.base CX k f fd ps sp) (hr : Room k X.A) (hb : Binds X.K fd ps ds) (hd : Vals dvs ds) (hx : Passes CX X E)
    (I : Inv X pins σ H s) (r : Vals vs us) (h : sp (vs ++ dvs) H Q E) : wpAny (model X.prog X.w) X.A (call (.ref f) us) (EP X pins σ Q) X.xe s := by
  have r2 : Vals (vs ++ dvs) (us ++ ds) := r.append hd
  have hl : (us ++ ds).length = ps.length := by rw [← r2.length]; exact F.len _ _ _ _ h
  refine wpAny_call (codeAny_mono (F.run X.A X.stack s H ⟨us, []⟩ (us ++ ds) (vs ++ dvs) Q E hr I.env0 (hb s us I.kIn hl) r2 h) fun r s' hq => ?_)
  cases r with
  | error e => exact hx pins σ H s e s' I hq
  | ok fl =>
    cases fl with
    | ret u => exact I.after hq
    | next => exact False.elim hq
    | brk => exact False.elim hq
    | cont => exact False.elim hq
theorem pe_call (F : FnOk X.prog X.w X.K X.mg X.base CX k f fd ps sp) (hr : Room k X.A) (hg : Gl X x) (hm : X.mg x = some (.ref f)) (hk : PySem.W.keepIn X.K (.ref f) = true) (hb : Binds X.K fd ps ds) (hd : Vals dvs ds) (hx : Passes CX X E)
    (ha : PA X (e :: es) t) (hdb : (x == ("__debug__" : Str)) = false := by decide) (he : starEach (e :: es) X.env = (false, eval e X.env) :: starEach es X.env := by rfl) (hpl : (backTo pos (starEach es X.env)).any (·.1) = false := by rfl) :
    PE X (.Call (.Name x p) (e :: es) [] pos) (tCall sp dvs E t) := by
  intro pins s σ H Q I h
  refine wpAny_Call_Name_kw (ld_glob I hg hm ?_ hdb)
  refine PySem.W.callWith_K (h₀ := X.base) I.ok.mod.kin hk (thn (ha pos pins s σ H _ I h) fun us s1 ⟨vs, H1, I1, r, q⟩ => ⟨I1.kIn, ?_⟩) he hpl
  exact run_fn F hr hb hd hx I1 r q
end
section
variable {X : Cx} {CX : CXT} {k : Nat} {f C : Addr} {fd : FuncData} {ps ks : List Str} {sp : Sp} {E : XK} {x m : Str} {p pos apos kpos : Pos} {e o : Expr} {es : List Expr} {kws : List Keyword} {te ta : TE} {t tk : TA} {nm : Option Str}
variable {g : List Value → List Value → List Value} {gV : List V → List V → List V}
end
structure FnScope (N P : List Str) (sc : Scope) : Prop where
  kind : sc.kind = .function
  co : sc.isCoroutine = false
  gen : sc.isGenerator = false
  nd : N.Nodup
  pre : N.take P.length = P
  par : ∀ x ∈ P, sc.names.lookup x = some .local ∨ sc.names.lookup x = some .cell
  nofree : ∀ y ∈ sc.names, y.2 ≠ .free
theorem bindL_out {kindOf : Str → Option NameKind} {x : Str} : ∀ {binds : List (Str × Value)} {m : Str → Option Value}, (∀ v, (x, v) ∉ binds) → bindL kindOf binds m x = m x
  | [], _, _ => rfl
  | (n, v) :: r, m, h => by
    unfold bindL
    rw [bindL_out fun w hw => h w (List.mem_cons_of_mem _ hw)]
    split
    · have : x ≠ n := by rintro rfl; exact h v List.mem_cons_self
      simp [this]
    · rfl
theorem bindC_out {kindOf : Str → Option NameKind} {x : Str} : ∀ {binds : List (Str × Value)} {m : Str → Option Value}, (∀ v, (x, v) ∉ binds) → bindC kindOf binds m x = m x
  | [], _, _ => rfl
  | (n, v) :: r, m, h => by
    unfold bindC
    rw [bindC_out fun w hw => h w (List.mem_cons_of_mem _ hw)]
    split
    · rfl
    · have : x ≠ n := by rintro rfl; exact h v List.mem_cons_self
      simp [this]
theorem bindL_get {kindOf : Str → Option NameKind} {x : Str} {v : Value} : ∀ {P : List Str} {vs : List Value} {i : Nat} {m : Str → Option Value}, P.Nodup → P[i]? = some x → vs[i]? = some v → kindOf x = some .local →
    bindL kindOf (P.zip vs) m x = some v
  | [], _, _, _, _, h, _, _ => by simp at h
  | _ :: _, [], _, _, _, _, h, _ => by simp at h
  | p :: P, w :: vs, 0, m, nd, h1, h2, hk => by
    simp at h1 h2; subst h1; subst h2
    show bindL kindOf ((p, w) :: P.zip vs) m p = _
    unfold bindL
    rw [bindL_out fun v hv => (List.nodup_cons.mp nd).1 (List.of_mem_zip hv).1, if_pos hk]
    simp
  | p :: P, w :: vs, i + 1, m, nd, h1, h2, hk => by
    show bindL kindOf ((p, w) :: P.zip vs) m x = _
    unfold bindL
    exact bindL_get (i := i) (List.nodup_cons.mp nd).2 (by simpa using h1) (by simpa using h2) hk
theorem bindC_get {kindOf : Str → Option NameKind} {x : Str} {v : Value} : ∀ {P : List Str} {vs : List Value} {i : Nat} {m : Str → Option Value}, P.Nodup → P[i]? = some x → vs[i]? = some v → kindOf x ≠ some .local →
    bindC kindOf (P.zip vs) m x = some v
  | [], _, _, _, _, h, _, _ => by simp at h
  | _ :: _, [], _, _, _, _, h, _ => by simp at h
  | p :: P, w :: vs, 0, m, nd, h1, h2, hk => by
    simp at h1 h2; subst h1; subst h2
    show bindC kindOf ((p, w) :: P.zip vs) m p = _
    unfold bindC
    rw [bindC_out fun v hv => (List.nodup_cons.mp nd).1 (List.of_mem_zip hv).1, if_neg hk]
    simp
  | p :: P, w :: vs, i + 1, m, nd, h1, h2, hk => by
    show bindC kindOf ((p, w) :: P.zip vs) m x = _
    unfold bindC
    exact bindC_get (i := i) (List.nodup_cons.mp nd).2 (by simpa using h1) (by simpa using h2) hk
def start (N : List Str) (vs : List V) : St := vs.map some ++ List.replicate (N.length - vs.length) none
def cxOf (CX : CXT) (P : Program) (w : World) (K : PySem.W.Frag) (mg : Str → Option Value) (base : Heap) (N : List Str) (qual : Str) (scope : Scope) (f : Addr) (cd : Value) (A : Around) (outer : List Env) (s : Shared) (H : Hp) (E : XK) : Cx where
  prog := P
  w := w
  K := K
  mg := mg
  base := base
  A := A.deeper (envOfC qual scope s.heap.objs.size f cd)
  N := N
  s₀ := s
  H₀ := H
  env := envOfC qual scope s.heap.objs.size f cd
  outer := outer
  stack := envOfC qual scope s.heap.objs.size f cd :: outer
  ex := []
  calm := true
  fn := fun _ => true
  pn := []
  xe := fun e s' => wpAny (model P w) (A.deeper (envOfC qual scope s.heap.objs.size f cd)) (leaving (envOfC qual scope s.heap.objs.size f cd) e) (fun _ s'' => CX outer H s E e s'') (fun e' s'' => CX outer H s E e' s'') s'
theorem cell_has {sc : Scope} {n : Nat} {x : Str} (h : sc.names.lookup x = some .cell) : ∃ c, (cellsFrom n sc.names []).lookup x = some c := by
  have q := PySem.W.cellsFrom_some sc.names n [] (.inl h)
  exact Option.isSome_iff_exists.mp q
theorem inv_start {CX : CXT} {P : Program} {w : World} {K : PySem.W.Frag} {mg : Str → Option Value} {base : Heap} {N ps : List Str} {qual : Str} {scope : Scope} {f : Addr} {cd : Value} {A : Around} {outer : List Env} {s s1 : Shared} {H : Hp} {E : XK} {us : List Value} {vs : List V}
    (S : FnScope N ps scope) (hd : A.handled = none) (e0 : Env0 P w K mg base A outer s H) (hl : vs.length = ps.length) (r : Vals vs us)
    (x : InCallC s s.heap.objs.size (bindL (envOfC qual scope s.heap.objs.size f cd).kindOf (ps.zip us) fun _ => none) (cellsFrom (s.heap.objs.size + 1) scope.names []) (bindC (envOfC qual scope s.heap.objs.size f cd).kindOf (ps.zip us) fun _ => none) s1) :
    Inv (cxOf CX P w K mg base N qual scope f cd A outer s H E) [] (start N vs) H s1 := by
  have hpl : ps.length ≤ N.length := by have := congrArg List.length S.pre; rw [List.length_take] at this; omega
  obtain ⟨h1, tk, rfl, hk⟩ := x.done
  have noA : ∀ b : Addr, b ∉ (cxOf CX P w K mg base N qual scope f cd A outer s H E).ex := fun b z => absurd (show b ∈ ([] : List Addr) from z) (by simp)
  refine ⟨⟨e0.mod, S.kind, rfl, rfl, Nat.le_refl _, fun y z c h1 h2 => ?_, fun y hy => ?_, fun y c _ h => ?_, fun _ => hd, Around.frames_deeper e0.frames, .inr ⟨rfl, rfl⟩, fun b z => absurd z (noA b), e0.bs, e0.bsz, fun b _ _ => noA b, fun b z => absurd z (noA b), e0.funs, e0.frf⟩,
    rfl, e0.bare, Un.kept hk, ⟨_, x.toInCall.ns, fun i y v h1 h2 h3 => ?_⟩, fun y c h => ⟨_, x.cell y c h⟩, e0.hok.fresh (Nat.le_refl _), fun y c h => ?_, fun p hp => absurd (show p ∈ ([] : List (Addr × Obj)) from hp) (by simp), e0.hok.kept hk, ?_⟩
  · exact name_of_addr x.apart (PySem.mem_of_lookup h1) (PySem.mem_of_lookup h2)
  · have hy : scope.names.lookup y = some .cell ∨ scope.names.lookup y = some .free := hy
    rcases hy with hy | hy
    · exact cell_has hy
    · exact absurd rfl (S.nofree _ (PySem.mem_of_lookup hy))
  · exact Nat.le_of_lt (x.above y c (PySem.mem_of_lookup h))
  · have hi : i < vs.length := by
      unfold start at h2
      by_cases hi : i < vs.length
      · exact hi
      · rw [List.getElem?_append_right (by simpa using hi)] at h2
        rw [List.getElem?_replicate] at h2
        split at h2 <;> cases h2
    have ha : vs[i]? = some v := by
      unfold start at h2
      rw [List.getElem?_append_left (by simpa using hi), List.getElem?_map] at h2
      cases e : vs[i]? with
      | none => rw [e] at h2; cases h2
      | some a => rw [e] at h2; cases h2; rfl
    obtain ⟨u, hu, rv⟩ := r.get ha
    have hp : ps[i]? = some y := by
      rw [← S.pre, List.getElem?_take_of_lt (by omega)]; exact h1
    have ndP : ps.Nodup := by rw [← S.pre]; exact S.nd.sublist (List.take_sublist _ _)
    refine ⟨u, rv, ?_⟩
    rcases S.par y (List.mem_of_getElem? hp) with k | k
    · exact .inl ⟨k, bindL_get ndP hp hu k⟩
    · obtain ⟨c, e⟩ := cell_has (n := s.heap.objs.size + 1) k
      refine .inr ⟨.inl k, c, e, ?_⟩
      have q := x.cell y c e
      rw [bindC_get ndP hp hu (by show scope.names.lookup y ≠ _; rw [k]; decide)] at q
      exact q
  · exact e0.hok.fresh (Nat.le_of_lt (x.above y c (PySem.mem_of_lookup h)))
  · unfold start
    show _ = N.length
    rw [List.length_append, List.length_map, List.length_replicate]
    omega
theorem fn_of {CX : CXT} {P : Program} {w : World} {K : PySem.W.Frag} {mg : Str → Option Value} {base : Heap} {k : Nat} {f : Addr} {name qual : Str} {params : Arguments} {body : List Stmt} {scope : Scope} {dV kV doc pm cdv ct oc : Value} {an od : Option Addr}
    {osl : Array (Option Value)} {N ps : List Str} {sp : Sp} (lk : K.lookup f = some ⟨oc, od, .func (PySem.W.fnOf name qual params body scope dV kV doc pm an cdv ct), osl⟩) (hcd : PySem.W.codeIn K cdv qual = true) (S : FnScope N ps scope)
    (len : ∀ vs H Q E, sp vs H Q E → vs.length = ps.length)
    (hbody : ∀ (A : Around) (outer : List Env) (s : Shared) (H : Hp) (vs : List V) (Q : VK) (E : XK), Room k (A.deeper (envOfC qual scope s.heap.objs.size f cdv)) → sp vs H Q E →
      ∃ t, PSs (cxOf CX P w K mg base N qual scope f cdv A outer s H E) body t ∧ t { nx := fun _ H' => Q .non H', rt := Q } (start N vs) H) :
    FnOk P w K mg base CX (k + 1) f (PySem.W.fnOf name qual params body scope dV kV doc pm an cdv ct) ps sp := by
  refine ⟨len, fun A outer s H args us vs Q E hr e0 hb r hsp => ?_⟩
  have hl := len _ _ _ _ hsp
  have KX : K.In s.heap := e0.mod.kin.keeps fun b o e => (e0.bs b o e).1
  have lim : s.heap.NoLimit := e0.mod.nolimit.keeps fun b o e => (e0.bs b o e).1
  have hkind : ∀ y ∈ ps.zip us, scope.names.lookup y.1 = some .local ∨ (scope.names.lookup y.1 = some .cell ∧ ((cellsFrom (s.heap.objs.size + 1) scope.names []).lookup y.1).isSome = true) := fun ⟨n, v⟩ hy => by
    rcases S.par n (List.of_mem_zip hy).1 with q | q
    · exact .inl q
    · exact .inr ⟨q, PySem.W.cellsFrom_some _ _ _ (.inl q)⟩
  refine codeAny_call_function hr.depth (KX _ _ lk) rfl S.co S.gen rfl (PySem.W.codeRec_of KX hcd) (hb _ _ _ _ ?_)
  refine wpAny_newFunctionEnv_cells S.kind hkind fun env he s1 x => ?_
  subst he
  refine ⟨lim.keeps x.toInCall.keep, codeAny_func ?_⟩
  obtain ⟨t, ht, hq⟩ := hbody A outer s H vs Q E (hr.deeper _) hsp
  have I : Inv (cxOf CX P w K mg base N qual scope f cdv A outer s H E) [] (start N vs) H s1 := inv_start S hr.hd e0 hl r x
  refine wpAny_mono (ht [] s1 (start N vs) H _ I hq) (fun fl s' hs => ?_) fun e s' hs => hs
  have fin : ∀ {σ' : St} {H' : Hp} {v : V} {u : Value}, Inv (cxOf CX P w K mg base N qual scope f cdv A outer s H E) [] σ' H' s' → RelV v u → Q v H' → CE outer P w H s Q u s' :=
    fun {σ' H' v u} J rv q => ⟨v, H', J.os, J.bare, J.base, J.hok, rv, q⟩
  cases fl with
  | ret u =>
    obtain ⟨v, σ', H', J, rv, q⟩ := hs
    exact fin J rv q
  | next =>
    obtain ⟨σ', H', J, q⟩ := hs
    exact fin (v := V.non) (u := Value.none) J rfl q
  | brk =>
    obtain ⟨_, _, _, q⟩ := hs
    exact False.elim q
  | cont =>
    obtain ⟨_, _, _, q⟩ := hs
    exact False.elim q
end L2
namespace L2
open PySem PySem.Spec PyProof.Rows
section
variable {X : Cx} {x : Str} {p pos : Pos} {e : Expr} {es : List Expr} {t : TA} {id T : String} {r : List V → Hp → VK → Prop}
def tCB (r : List V → Hp → VK → Prop) (t : TA) : TE := fun σ H Q => t σ H fun vs H1 => r vs H1 Q
theorem pe_callB (hc : CallR X (.builtin id) r) (hg : Gl X x) (hm : X.mg x = none) (hv : bootBuiltins x = some (.builtin id)) (ha : PA X (e :: es) t) (hn : x ≠ "__name__" := by decide) (hdb : (x == ("__debug__" : Str)) = false := by decide)
    (he : starEach (e :: es) X.env = (false, eval e X.env) :: starEach es X.env := by rfl) (hpl : (backTo pos (starEach es X.env)).any (·.1) = false := by rfl) : PE X (.Call (.Name x p) (e :: es) [] pos) (tCB r t) := by
  intro pins s σ H Q I h
  refine wpAny_Call_Name_kw (ld_blt I hg hm hv ?_ hn hdb)
  exact PyProof.Rows.callWith_builtin1 (thn (ha pos pins s σ H _ I h) fun us s1 ⟨vs, H1, I1, r1, q1⟩ => hc pins s1 σ H1 vs us Q I1 r1 q1) he hpl
theorem pe_callTy (hc : CallR X (.type T) r) (hg : Gl X x) (hm : X.mg x = none) (hv : bootBuiltins x = some (.type T)) (ha : PA X (e :: es) t) (hn : x ≠ "__name__" := by decide) (hdb : (x == ("__debug__" : Str)) = false := by decide)
    (he : starEach (e :: es) X.env = (false, eval e X.env) :: starEach es X.env := by rfl) (hpl : (backTo pos (starEach es X.env)).any (·.1) = false := by rfl) : PE X (.Call (.Name x p) (e :: es) [] pos) (tCB r t) := by
  intro pins s σ H Q I h
  refine wpAny_Call_Name_kw (ld_blt I hg hm hv ?_ hn hdb)
  exact PyProof.Rows.callWith_type1 (thn (ha pos pins s σ H _ I h) fun us s1 ⟨vs, H1, I1, r1, q1⟩ => hc pins s1 σ H1 vs us Q I1 r1 q1) he hpl
end
end L2
namespace HT
open PySem PyProof.Rows
section
open PySem.SeqAt
open PySem.AutoSeq1 (wpAny_loadPart')
open PySem.MeetsSeq PySem.MeetsSeq2 PySem.MeetsSeq3
end
section
variable {prog : Program} {w : World} {A : Around} {E : Value → Shared → Prop} {s : Shared}
theorem cat_tup {t b : Addr} {vs ws : List Value} {Q : Value → Shared → Prop} (ht : IsTup s.heap t vs.toArray) (hb : IsTup s.heap b ws.toArray) (hv : vs ≠ [])
    (h1 : ws = [] → Q (.ref t) s) (h2 : ws ≠ [] → Q (.ref s.heap.objs.size) { s with heap := s.heap.push { cls := .type "tuple", data := .seq (vs ++ ws).toArray } })
    (hsz : vs.length + ws.length ≤ sizeLine) : wpAny (model prog w) A (binaryOp .Add (.ref t) (.ref b)) Q E s := by
  obtain ⟨⟨cls, dd, data, sl⟩, ho, hc, n, hd⟩ := id ht
  obtain ⟨⟨cls2, dd2, data2, sl2⟩, ho2, hc2, n2, hd2⟩ := id hb
  simp only at hc hd hc2 hd2
  subst hc hd hc2 hd2
  have e : vs.toArray ++ ws.toArray = (vs ++ ws).toArray := by simp
  by_cases hw : ws = []
  · exact concat_meets ⟨_, ho, rfl⟩ ⟨_, ho2, rfl⟩ noFill_tuple_add seq_tuple_add PySem.F.slot_tuple_add PySem.F.entry_tuple_add (PySem.F.args_tuple_add_2 _ _)
      (tuple_addW1 t b vs.toArray ws.toArray n n2 dd dd2 sl sl2 (by simpa using hv) (by simp [hw])) ⟨ho, ho2, h1 hw⟩
  · refine concat_meets ⟨_, ho, rfl⟩ ⟨_, ho2, rfl⟩ noFill_tuple_add seq_tuple_add PySem.F.slot_tuple_add PySem.F.entry_tuple_add (PySem.F.args_tuple_add_2 _ _)
      (tuple_addW2 t b vs.toArray ws.toArray n n2 dd dd2 sl sl2 (by simpa using hv) (by simpa using hw) (by rw [List.size_toArray, List.size_toArray]; exact hsz)) ⟨ho, ho2, ?_⟩
    rw [e]
    exact h2 hw
def sIx (n d : Nat) : Option Int → Nat
  | none => d
  | some v => if v < 0 then (v + (n : Int)).toNat else min v.toNat n
theorem sIx_none (n d : Nat) : sIx n d none = d := rfl
theorem sIx_nat (n d k : Nat) : sIx n d (some (k : Int)) = min k n := by
  show (if (k : Int) < 0 then ((k : Int) + (n : Int)).toNat else min (k : Int).toNat n) = min k n
  rw [if_neg (by omega), Int.toNat_natCast]
theorem sIx_le (n d : Nat) (hd : d ≤ n) (o : Option Int) : sIx n d o ≤ n := by
  cases o with
  | none => exact hd
  | some v =>
    show (if v < 0 then (v + (n : Int)).toNat else min v.toNat n) ≤ n
    by_cases hv : v < 0
    · rw [if_pos hv]; omega
    · rw [if_neg hv]; exact Nat.min_le_right _ _
theorem clip_eq (v : Int) (n d : Nat) : (if v < 0 then max (v + (n : Int)) 0 else min v (n : Int)) = ((sIx n d (some v) : Nat) : Int) := by
  show (if v < 0 then max (v + (n : Int)) 0 else min v (n : Int)) = (((if v < 0 then (v + (n : Int)).toNat else min v.toNat n) : Nat) : Int)
  by_cases hv : v < 0
  · simp only [if_pos hv]; omega
  · simp only [if_neg hv]; omega
theorem adjust_gen (lo hi : Option Int) (n : Nat) : Builtin.Slice.sliceAdjust lo hi 1 (n : Int) = (((sIx n 0 lo : Nat) : Int), ((sIx n n hi : Nat) : Int)) := by
  have h1 : ¬ ((1 : Int) < 0) := by omega
  unfold Builtin.Slice.sliceAdjust
  simp only [h1, if_false]
  refine Prod.ext ?_ ?_
  · cases lo with
    | none => rfl
    | some v => exact clip_eq v n 0
  · cases hi with
    | none => rfl
    | some v => exact clip_eq v n n
theorem places_gen (i j : Nat) : Builtin.Slice.slicePlaces (i : Int) (j : Int) 1 = j - i := by
  unfold Builtin.Slice.slicePlaces
  have h1 : (1 : Int) > 0 := by omega
  simp only [h1, if_true, Int.ediv_one]
  split <;> omega
theorem slicePart_ {v : Value} {o : Option Int} {Q : Option Int → Shared → Prop} (p : IsPart v o) (h : Q o s) : wpAny (model prog w) A (Builtin.Slice.slicePartIndex v) Q E s := by
  cases p with
  | none => exact slicePart_none h
  | int i t => exact slicePart_int h
theorem sliceApplied_gen {sl : Addr} {vl vu : Value} {lo hi : Option Int} {n : Nat} {Q : Int × Int × Nat → Shared → Prop} (hs : s.heap.IsSliceOf sl vl vu .none) (pl : IsPart vl lo) (pu : IsPart vu hi)
    (h : Q (((sIx n 0 lo : Nat) : Int), 1, sIx n n hi - sIx n 0 lo) s) : wpAny (model prog w) A (Builtin.Slice.sliceApplied (.ref sl) (pure (n : Int))) Q E s := by
  obtain ⟨os, hos, hcs, hds⟩ := id hs
  unfold Builtin.Slice.sliceApplied Builtin.Slice.sliceFields
  refine wpAny_bind (wpAny_bind (wpAny_field hos hds (x := vl) rfl (wpAny_bind (wpAny_field hos hds (x := vu) rfl (wpAny_bind (wpAny_field hos hds (x := .none) rfl (wpAny_pure ?_)))))))
  refine wpAny_bind (slicePart_none ?_)
  show wpAny _ _ (if ((1 : Int) == 0) = true then _ else _) _ _ s
  rw [if_neg (by decide)]
  refine wpAny_bind (slicePart_ pl (wpAny_bind (slicePart_ pu (wpAny_bind (wpAny_pure ?_)))))
  show wpAny _ _ (match Builtin.Slice.sliceAdjust lo hi 1 (n : Int) with | (lo, hi) => pure (lo, (1 : Int), Builtin.Slice.slicePlaces lo hi 1)) _ _ s
  rw [adjust_gen lo hi n]
  show wpAny _ _ (pure (((sIx n 0 lo : Nat) : Int), (1 : Int), Builtin.Slice.slicePlaces ((sIx n 0 lo : Nat) : Int) ((sIx n n hi : Nat) : Int) 1)) _ _ s
  rw [places_gen]
  exact wpAny_pure h
theorem pick_gen (xs : Array Value) (i k : Nat) : ((List.range k).filterMap fun (m : Nat) => xs[((i : Int) + (m : Int) * 1).toNat]?).toArray = ((xs.toList.drop i).take k).toArray := by
  have e : (fun (m : Nat) => xs[((i : Int) + (m : Int) * 1).toNat]?) = fun m => xs[i + m]? := by
    funext m
    have : ((i : Int) + (m : Int) * 1).toNat = i + m := by omega
    rw [this]
  rw [e]
  have := pick_run xs i k
  rw [List.filterMap_map] at this
  have e2 : ((fun x => xs[x]?) ∘ fun x => i + x) = fun m => xs[i + m]? := rfl
  rw [e2] at this
  rw [this]
theorem getItem_tuple_cut {t sl : Addr} {items : Array Value} {vl vu : Value} {lo hi : Option Int} {Q : Value → Shared → Prop} (ht : IsTup s.heap t items) (hs : s.heap.IsSliceOf sl vl vu .none) (pl : IsPart vl lo) (pu : IsPart vu hi)
    (hw : ¬ (sIx items.size 0 lo = 0 ∧ sIx items.size items.size hi = items.size))
    (h : Q (.ref s.heap.objs.size) { s with heap := s.heap.push { cls := .type "tuple", data := .seq ((items.toList.drop (sIx items.size 0 lo)).take (sIx items.size items.size hi - sIx items.size 0 lo)).toArray } })
    (hsz : items.size ≤ sizeLine) : wpAny (model prog w) A (getItem (.ref t) (.ref sl)) Q E s := by
  have htake : sizeOk (.seq ((items.toList.drop (sIx items.size 0 lo)).take (sIx items.size items.size hi - sIx items.size 0 lo)).toArray) := by
    show ((items.toList.drop (sIx items.size 0 lo)).take (sIx items.size items.size hi - sIx items.size 0 lo)).toArray.size ≤ sizeLine
    rw [List.size_toArray, List.length_take, List.length_drop, Array.length_toList]
    omega
  have hj : sIx items.size items.size hi ≤ items.size := sIx_le _ _ (Nat.le_refl _) hi
  obtain ⟨os, hos, hcs, hds⟩ := id hs
  have hTs : s.TypeIs (.ref sl) "slice" := ⟨os, hos, hcs⟩
  unfold getItem
  try with_reducible refine wpAny_holding ?_
  first | refine wpAny_bind (wpAny_pure ?_) | skip
  refine wpAny_bind (wpAny_sequenceKey ht.typeIs (by decide) ?_)
  refine wpAny_bind (wpAny_callSpecial?_slot (name := Str.ofString "__getitem__") ht.typeIs PyProof.Rows.slot_tuple_getitem
    (wpAny_call_entry PyProof.Rows.slot_tuple_getitem ht.typeIs entry_tuple_getitem ?_ (args_tuple_getitem _ _)))
  show wpAny _ _ (Builtin.Tuple.tupleItemsOf (.ref t) >>= _) _ _ s
  refine wpAny_bind (tupleItemsOf_ ht ?_)
  refine wpAny_bind (wpAny_typeOf hTs ?_)
  rw [if_pos (by decide)]
  refine wpAny_bind (sliceApplied_gen hs pl pu ?_)
  have hno : ¬ ((((sIx items.size 0 lo : Nat) : Int) == 0 && (1 : Int) == 1 && (sIx items.size items.size hi - sIx items.size 0 lo) == items.size) = true) := by
    intro q
    rw [Bool.and_eq_true, Bool.and_eq_true] at q
    have q1 : ((sIx items.size 0 lo : Nat) : Int) = 0 := eq_of_beq q.1.1
    have q2 : sIx items.size items.size hi - sIx items.size 0 lo = items.size := eq_of_beq q.2
    exact hw ⟨by omega, by omega⟩
  show wpAny _ _ (if (((sIx items.size 0 lo : Nat) : Int) == 0 && (1 : Int) == 1 && (sIx items.size items.size hi - sIx items.size 0 lo) == items.size) = true then _ else _) _ _ s
  rw [if_neg hno, pick_gen]
  first
    | exact wpAny_bind (m := Builtin.Tuple.tupleExact _) (wpAny_newObj_type (wpAny_pure ⟨_, rfl, wpAny_pure h⟩) htake)
    | exact wpAny_bind (m := Builtin.Tuple.tupleExact _) (wpAny_newObj_type (wpAny_bind (wpAny_pure (wpAny_pure ⟨_, rfl, wpAny_pure h⟩))) htake)
    | exact wpAny_bind (wpAny_bind (m := Builtin.Tuple.tupleExact _) (wpAny_newObj_type (wpAny_pure (wpAny_pure ⟨_, rfl, wpAny_pure h⟩)) htake))
    | exact wpAny_bind (wpAny_bind (m := Builtin.Tuple.tupleExact _) (wpAny_newObj_type (wpAny_pure ⟨_, rfl, wpAny_pure h⟩) htake))
end
end HT
namespace L2
open PySem PySem.Spec PyProof.Rows
abbrev TO := St → Hp → (Option Int → Hp → Prop) → Prop
def PO (X : Cx) (e : Option Expr) (t : TO) : Prop :=
  ∀ (pins : List (Addr × Obj)) (s : Shared) (σ : St) (H : Hp) (Q : Option Int → Hp → Prop), Inv X pins σ H s → t σ H Q →
    wpAny (model X.prog X.w) X.A (evalPart e X.env) (fun u s' => ∃ o H', Inv X pins σ H' s' ∧ IsPart u o ∧ Q o H') X.xe s
def tNoPart : TO := fun _ H Q => Q none H
def tPart (t : TE) : TO := fun σ H Q => t σ H fun x H1 => ∃ i, x = .int i ∧ Q (some i) H1
theorem intsAre_of {ns : List Int} : ∀ {us : List Value}, Vals (ns.map V.int) us → IntsAre us ns := by
  induction ns with
  | nil => intro us r; rw [List.map_nil] at r; cases r; exact .nil
  | cons n ns ih =>
    intro us r
    rw [List.map_cons] at r
    cases r with
    | cons r1 r2 =>
      obtain ⟨t, e⟩ := r1
      subst e
      exact .cons n t (ih r2)
section
variable {X : Cx} {e : Expr} {te : TE} {lo hi : Option Expr} {tl th : TO} {pos p2 : Pos}
theorem po_none : PO X none tNoPart := by
  intro pins s σ H Q I h
  rw [evalPart_none]
  exact wpAny_pure ⟨none, H, I, .none, h⟩
theorem po_some (h : PE X e te) : PO X (some e) (tPart te) := by
  intro pins s σ H Q I hw
  rw [evalPart_some]
  refine thn (h pins s σ H _ I hw) fun u s1 ⟨x, H1, I1, r1, q1⟩ => ?_
  obtain ⟨i, rfl, q⟩ := q1
  obtain ⟨t, rfl⟩ := r1
  exact ⟨some i, H1, I1, .int i t, q⟩
def SlR (X : Cx) (r : V → Option Int → Option Int → Hp → VK → Prop) : Prop :=
  ∀ (pins : List (Addr × Obj)) (s : Shared) (σ : St) (H : Hp) (x : V) (v vl vu : Value) (lo hi : Option Int) (sl : Addr) (Q : VK), Inv X pins σ H s → RelV x v → s.heap.IsSliceOf sl vl vu .none → IsPart vl lo → IsPart vu hi → r x lo hi H Q →
    ∃ T id, typeLookup (.type T) "__getitem__" = pure (some (.builtin id)) ∧ s.TypeIs v T ∧ wpAny (model X.prog X.w) X.A (getItem v (.ref sl)) (EP X pins σ Q) X.xe s
def tSl (r : V → Option Int → Option Int → Hp → VK → Prop) (te : TE) (tl th : TO) : TE := fun σ H Q => te σ H fun x H1 => tl σ H1 fun l H2 => th σ H2 fun u H3 => r x l u H3 Q
theorem pe_slice {r : V → Option Int → Option Int → Hp → VK → Prop} (hr : SlR X r) (he : PE X e te) (hl : PO X lo tl) (hu : PO X hi th) : PE X (.Subscript e (.Slice lo hi none p2) pos) (tSl r te tl th) := by
  intro pins s σ H Q I h
  refine Subscript_ (thn (he pins s σ H _ I h) fun v s1 ⟨x, H1, I1, r1, q1⟩ => ?_)
  refine wpAny_Slice (thn (hl pins s1 σ H1 _ I1 q1) fun vl s2 ⟨l, H2, I2, pl, q2⟩ => thn (hu pins s2 σ H2 _ I2 q2) fun vu s3 ⟨u, H3, I3, pu, q3⟩ => ?_)
  rw [evalPart_none]
  refine wpAny_pure ?_
  have I4 : Inv X pins σ H3 { s3 with heap := s3.heap.push { cls := .type "slice", data := .fields #[vl, vu, .none] } } := I3.kept (t' := s3.toks) fun b ob q => Heap.get?_push_of_some _ q
  obtain ⟨T, id, hT, ht, hg⟩ := hr pins { s3 with heap := s3.heap.push { cls := .type "slice", data := .fields #[vl, vu, .none] } } σ H3 x v vl vu l u s3.heap.objs.size Q I4 r1 (Heap.IsSliceOf.new ..) pl pu q3
  show wpAny (model X.prog X.w) X.A (subscriptTail e (.Slice lo hi none p2) v (.ref s3.heap.objs.size)) (EP X pins σ Q) X.xe { s3 with heap := s3.heap.push { cls := .type "slice", data := .fields #[vl, vu, .none] } }
  exact tail_any (ops := [.ref s3.heap.objs.size, v]) ht hT hg (by with_unfolding_all rfl)
def cutV (xs : List V) (lo hi : Option Int) : List V := (xs.drop (HT.sIx xs.length 0 lo)).take (HT.sIx xs.length xs.length hi - HT.sIx xs.length 0 lo)
theorem cutV_length (xs : List V) (lo hi : Option Int) : (cutV xs lo hi).length ≤ xs.length := by
  unfold cutV
  rw [List.length_take, List.length_drop]
  omega
def rSlT (K : PySem.W.Frag) : V → Option Int → Option Int → Hp → VK → Prop := fun x lo hi H Q => ∃ a xs, x = .ref a ∧ SqT K H a xs ∧
  ¬ (HT.sIx xs.length 0 lo = 0 ∧ HT.sIx xs.length xs.length hi = xs.length) ∧ ∀ p, H p = none → Q (.ref p) (upd H p (.tup (cutV xs lo hi)))
theorem sl_tup : SlR X (rSlT X.K) := by
  intro pins s σ H x v vl vu lo hi sl Q I rx hs pl pu h
  obtain ⟨a, xs, rfl, hx, hw, q⟩ := h
  cases rx
  obtain ⟨its, r, ht, hz⟩ := I.tuple hx
  have hlen : its.toArray.size = xs.length := by rw [List.size_toArray]; exact r.length.symm
  refine ⟨"tuple", _, PyProof.Rows.slot_tuple_getitem.lookup, ht.typeIs, ?_⟩
  refine HT.getItem_tuple_cut ht hs pl pu (by rw [hlen]; exact hw) ?_ (by rw [hlen]; exact hz)
  rw [hlen]
  refine ⟨.ref s.heap.objs.size, _, I.laid (t' := s.toks) (o := .tup (cutV xs lo hi)) (fun b ob q => Heap.get?_push_of_some _ q) (Nat.le_refl _) ?_, rfl, q _ (I.hok.fresh (Nat.le_refl _))⟩
  exact ⟨Nat.le_trans (cutV_length xs lo hi) hz, _, (r.drop (HT.sIx xs.length 0 lo)).take (HT.sIx xs.length xs.length hi - HT.sIx xs.length 0 lo), IsTup.new _ _⟩
def rCatT (K : PySem.W.Frag) : R2 := fun x y H Q => ∃ a b xs ys, x = .ref a ∧ y = .ref b ∧ SqT K H a xs ∧ SqT K H b ys ∧ xs ≠ [] ∧ xs.length + ys.length ≤ sizeLine ∧
  (ys = [] → Q (.ref a) H) ∧ (ys ≠ [] → ∀ p, H p = none → Q (.ref p) (upd H p (.tup (xs ++ ys))))
theorem Vals.nil_iff {xs : List V} {us : List Value} (r : Vals xs us) : us = [] ↔ xs = [] := by
  cases r with
  | nil => simp
  | cons _ _ => simp
theorem op_catT : OpR X (binaryOp .Add) (rCatT X.K) := by
  intro pins s σ H x y v u Q I rx ry h
  obtain ⟨a, b, xs, ys, rfl, rfl, ha, hb, hx, hz, q1, q2⟩ := h
  cases rx
  cases ry
  obtain ⟨its, r1, p1, _⟩ := I.tuple ha
  obtain ⟨its2, r2, p2, _⟩ := I.tuple hb
  refine HT.cat_tup p1 p2 (fun z => hx (r1.nil_iff.mp z)) (fun z => ⟨.ref a, H, I, rfl, q1 (r2.nil_iff.mp z)⟩) (fun z => ?_) (by rw [← r1.length, ← r2.length]; exact hz)
  refine ⟨.ref s.heap.objs.size, _, I.laid (t' := s.toks) (o := .tup (xs ++ ys)) (fun b ob q => Heap.get?_push_of_some _ q) (Nat.le_refl _) ?_, rfl, q2 (fun w => z (r2.nil_iff.mpr w)) _ (I.hok.fresh (Nat.le_refl _))⟩
  exact ⟨by rw [List.length_append]; exact hz, _, r1.append r2, IsTup.new _ _⟩
end
end L2
namespace L2
open PySem PySem.Spec PyProof.Rows
def ixN (n : Nat) (i : Int) : Option Nat := if 0 ≤ i then (if i < n then some i.toNat else none) else if -(n : Int) ≤ i then some (i + n).toNat else none
def atI {α : Type} (xs : List α) (i : Int) : Option α := (ixN xs.length i).bind fun j => xs[j]?
theorem ixN_seq {n : Nat} {i : Int} {j : Nat} (h : ixN n i = some j) : seqIndex? i n = some j ∧ j < n ∧ -(n : Int) ≤ i ∧ i < n := by
  unfold ixN at h
  by_cases h0 : 0 ≤ i
  · rw [if_pos h0] at h
    by_cases h1 : i < n
    · rw [if_pos h1] at h
      have e : i.toNat = j := Option.some.inj h
      exact ⟨by rw [seqIndex_of h0 h1, e], by omega, by omega, h1⟩
    · rw [if_neg h1] at h; cases h
  · rw [if_neg h0] at h
    by_cases h1 : -(n : Int) ≤ i
    · rw [if_pos h1] at h
      have e : (i + n).toNat = j := Option.some.inj h
      exact ⟨by rw [seqIndex_neg (by omega) h1, e], by omega, h1, by omega⟩
    · rw [if_neg h1] at h; cases h
theorem atI_get {α : Type} {xs : List α} {i : Int} {v : α} (h : atI xs i = some v) : ∃ j, seqIndex? i xs.length = some j ∧ xs[j]? = some v ∧ j < xs.length ∧ -(xs.length : Int) ≤ i ∧ i < xs.length := by
  unfold atI at h
  cases e : ixN xs.length i with
  | none => rw [e] at h; cases h
  | some j =>
    rw [e] at h
    obtain ⟨h1, h2, h3, h4⟩ := ixN_seq e
    exact ⟨j, h1, h, h2, h3, h4⟩
theorem atI_nat {α : Type} {xs : List α} {j : Nat} {v : α} (h : xs[j]? = some v) : atI xs (j : Int) = some v := by
  have hj : j < xs.length := (List.getElem?_eq_some_iff.mp h).1
  have e : ixN xs.length (j : Int) = some j := by
    unfold ixN
    rw [if_pos (by omega), if_pos (by omega)]; simp
  unfold atI; rw [e]; exact h
theorem atI_last {α : Type} (xs : List α) (v : α) : atI (xs ++ [v]) (-1) = some v := by
  have hl : (xs ++ [v]).length = xs.length + 1 := by simp
  have e : ixN (xs ++ [v]).length (-1) = some xs.length := by
    unfold ixN
    rw [hl, if_neg (by decide), if_pos (by omega)]
    congr 1
    omega
  unfold atI
  rw [e]
  show (xs ++ [v])[xs.length]? = some v
  simp
def PlainIx (b : Expr) : Prop := ∀ o i, subscripted b false o i = operate [o, i] (getItem o i)
def IxR (X : Cx) (r : R2) : Prop :=
  ∀ (value slice : Expr) (pins : List (Addr × Obj)) (s : Shared) (σ : St) (H : Hp) (x y : V) (v u : Value) (Q : VK), Inv X pins σ H s → RelV x v → RelV y u → r x y H Q →
    subscripted slice false v u = operate [v, u] (getItem v u) → wpAny (model X.prog X.w) X.A (subscriptTail value slice v u) (EP X pins σ Q) X.xe s
def MtR (X : Cx) (id : String) (r : V → List V → Hp → VK → Prop) : Prop :=
  ∀ (pins : List (Addr × Obj)) (s : Shared) (σ : St) (H : Hp) (x : V) (xs : List V) (v : Value) (us : List Value) (Q : VK), Inv X pins σ H s → RelV x v → Vals xs us → r x xs H Q →
    wpAny (model X.prog X.w) X.A (call (.builtin id) (v :: us)) (EP X pins σ Q) X.xe s
section
variable {X : Cx} {a b : Expr} {ta tb : TE} {pos : Pos}
theorem pe_ix {r : R2} (hr : IxR X r) (ha : PE X a ta) (hb : PE X b tb) (hs : PlainIx b) : PE X (.Subscript a b pos) (tOp r ta tb) := by
  intro pins s σ H Q I h
  exact Subscript_ (binT ha hb I h fun v u s2 x y H2 I2 rx ry q => hr a b pins s2 σ H2 x y v u Q I2 rx ry q (hs _ _))
def rIxL (K : PySem.W.Frag) : R2 := fun x y H Q => ∃ p xs i v, x = .ref p ∧ y = .int i ∧ SqL K H p xs ∧ atI xs i = some v ∧ Q v H
def rIxT (K : PySem.W.Frag) : R2 := fun x y H Q => ∃ p xs i v, x = .ref p ∧ y = .int i ∧ SqT K H p xs ∧ atI xs i = some v ∧ Q v H
theorem ix_list : IxR X (rIxL X.K) := by
  intro value slice pins s σ H x y v u Q I rx ry h hs
  obtain ⟨p, xs, i, z, rfl, rfl, hq, he, q⟩ := h
  cases rx
  obtain ⟨t, rfl⟩ := ry
  obtain ⟨its, r, pl, hz⟩ := I.list hq
  obtain ⟨j, h1, h2, h3, h4, h5⟩ := atI_get he
  obtain ⟨w, ew, rw'⟩ := r.get h2
  have hl := r.length
  have hn := line63
  have fin : EP X pins σ Q w s := ⟨z, H, I, rw', q⟩
  by_cases h0 : 0 ≤ i
  · have hj : i.toNat = j := by
      rw [seqIndex_of h0 h5] at h1
      exact Option.some.inj h1
    exact item_listR pl.isList h0 (by omega) (by rw [hj]; simpa using ew) fin hs
  · have hj : (i + (its.toArray.size : Int)).toNat = j := by
      rw [seqIndex_neg (by omega) h4] at h1
      rw [List.size_toArray, ← hl]
      exact Option.some.inj h1
    exact subscriptTail_builtinR (x := w) pl.isList.typeIs slot_list_getitem.lookup
      (wpAny_getItem_list_neg (Q := fun r s' => r = w ∧ EP X pins σ Q r s') pl.isList (by omega) (by rw [List.size_toArray] <;> omega) (by omega) (by rw [hj]; simpa using ew) ⟨rfl, fin⟩) hs
theorem ix_tup : IxR X (rIxT X.K) := by
  intro value slice pins s σ H x y v u Q I rx ry h hs
  obtain ⟨p, xs, i, z, rfl, rfl, hq, he, q⟩ := h
  cases rx
  obtain ⟨t, rfl⟩ := ry
  obtain ⟨its, r, pl, hz⟩ := I.tuple hq
  obtain ⟨j, h1, h2, h3, h4, h5⟩ := atI_get he
  obtain ⟨w, ew, rw'⟩ := r.get h2
  have hl := r.length
  have hn := line63
  have fin : EP X pins σ Q w s := ⟨z, H, I, rw', q⟩
  exact subscriptTail_builtinR (x := w) pl.typeIs slot_tuple_getitem.lookup
    (getItem_tuple (j := j) (Q := fun r s' => r = w ∧ EP X pins σ Q r s') pl (by omega) (by omega) (by rw [List.size_toArray, ← hl]; exact h1) (by simpa using ew) ⟨rfl, fin⟩) hs
theorem Inv.lst {pins : List (Addr × Obj)} {σ : St} {H : Hp} {s : Shared} {p : Addr} {xs : List V} (I : Inv X pins σ H s) (h : H p = some (.lst xs)) :
    ∃ (its : List Value) (n : Nat), Vals xs its ∧ s.heap.get? p = some { cls := .type "list", data := .seq its.toArray n } ∧ xs.length ≤ sizeLine := by
  obtain ⟨z, its, n, r, e⟩ := I.hok p _ h
  exact ⟨its, n, r, e, z⟩
def rSlL (K : PySem.W.Frag) : V → Option Int → Option Int → Hp → VK → Prop := fun x lo hi H Q => ∃ a xs, x = .ref a ∧ SqL K H a xs ∧ ∀ p, H p = none → Q (.ref p) (upd H p (.lst (cutV xs lo hi)))
theorem call_len_seq : CallR X (.builtin "len") (fun xs H Q => ∃ p ys, xs = [.ref p] ∧ (SqL X.K H p ys ∨ SqT X.K H p ys) ∧ Q (.int ys.length) H) := by
  intro pins s σ H xs us Q I r h
  obtain ⟨p, ys, rfl, hq, q⟩ := h
  obtain ⟨u, rfl, rx⟩ := vals1 r
  cases rx
  have hn := line63
  rcases hq with hq | hq
  · obtain ⟨its, r', pl, hz⟩ := I.list hq
    have hlen := r'.length
    exact Calls.call_len_list pl.isList (by simp only [List.size_toArray] <;> omega) ⟨.int ys.length, H, I.tok _, ⟨s.toks + 1, by rw [List.size_toArray, hlen]⟩, q⟩
  · obtain ⟨its, r', pl, hz⟩ := I.tuple hq
    have hlen := r'.length
    exact len_tuple pl (by simp only [List.size_toArray] <;> omega) ⟨.int ys.length, H, I.tok _, ⟨s.toks + 1, by rw [List.size_toArray, hlen]⟩, q⟩
theorem call_list_of : CallR X (.type "list") (fun xs H Q => ∃ p ys, xs = [.ref p] ∧ (SqL X.K H p ys ∨ SqT X.K H p ys) ∧ ∀ l, H l = none → Q (.ref l) (upd H l (.lst ys))) := by
  intro pins s σ H xs us Q I r h
  obtain ⟨p, ys, rfl, hq, q⟩ := h
  obtain ⟨u, rfl, rx⟩ := vals1 r
  cases rx
  have fin : ∀ (its : List Value), Vals ys its → ys.length ≤ sizeLine → ∀ (h' : Heap) (c' : Nat), (∀ b o', s.heap.get? b = some o' → h'.get? b = some o') →
      h'.get? s.heap.objs.size = some { cls := .type "list", dict := none, data := .seq its.toArray c', slots := #[] } → EP X pins σ Q (.ref s.heap.objs.size) { s with heap := h' } := fun its r' hz h' c' kp e =>
    ⟨.ref s.heap.objs.size, _, I.laid (t' := s.toks) kp (Nat.le_refl _) (show ObjOk X.prog X.w _ h' _ (.lst ys) from ⟨hz, its, c', r', e⟩), rfl, q _ (I.hok.fresh (Nat.le_refl _))⟩
  rcases hq with hq | hq
  · obtain ⟨its, r', pl, hz⟩ := I.list hq
    have hlen := r'.length
    obtain ⟨o, ho, hc, n, hd⟩ := pl.isList
    exact call_list_seq p (.inl rfl) ho hc hd (fun h' c' kp e => fin its r' hz h' c' kp e) (by simp only [List.size_toArray] <;> omega)
  · obtain ⟨its, r', pl, hz⟩ := I.tuple hq
    have hlen := r'.length
    obtain ⟨o, ho, hc, n, hd⟩ := pl
    exact call_list_seq p (.inr rfl) ho hc hd (fun h' c' kp e => fin its r' hz h' c' kp e) (by simp only [List.size_toArray] <;> omega)
theorem call_tuple_of : CallR X (.type "tuple") (fun xs H Q => ∃ p ys, xs = [.ref p] ∧ ((SqL X.K H p ys ∧ ∀ l, H l = none → Q (.ref l) (upd H l (.tup ys))) ∨ (SqT X.K H p ys ∧ Q (.ref p) H))) := by
  intro pins s σ H xs us Q I r h
  obtain ⟨p, ys, rfl, h⟩ := h
  obtain ⟨u, rfl, rx⟩ := vals1 r
  cases rx
  rcases h with ⟨hq, q⟩ | ⟨hq, q⟩
  · obtain ⟨its, r', pl, hz⟩ := I.list hq
    have hlen := r'.length
    refine call_tuple_list pl.isList (fun h' kp => ?_) (by simp only [List.size_toArray] <;> omega)
    have I1 : Inv X pins σ H { s with heap := h' } := I.kept (t' := s.toks) kp
    have I2 : Inv X pins σ (upd H h'.objs.size (.tup ys)) { s with heap := h'.push { cls := .type "tuple", data := .seq its.toArray } } :=
      I1.laid (t' := s.toks) (fun b o e => Heap.get?_push_of_some _ e) (Nat.le_refl _) (show ObjOk X.prog X.w _ _ _ (.tup ys) from ⟨hz, its, r', IsTup.new _ _⟩)
    exact ⟨.ref h'.objs.size, _, I2, rfl, q _ (I1.hok.fresh (Nat.le_refl _))⟩
  · obtain ⟨its, r', pl, hz⟩ := I.tuple hq
    exact call_tuple_same pl ⟨.ref p, H, I, rfl, q⟩
def tyV (K : PySem.W.Frag) (T : String) (x : V) (H : Hp) : Prop := match x with
  | .str _ => T = "str"
  | .int _ => T = "int"
  | .ref p => (T = "list" ∧ ∃ xs, SqL K H p xs) ∨ (T = "tuple" ∧ ∃ o, K.lookup p = some o ∧ o.cls = .type "tuple" ∧ o.dict = none) ∨
      (T = "dict" ∧ ((∃ kvs, H p = some (.dK kvs)) ∨ ∃ kvs, H p = some (.dT kvs))) ∨ (T = "set" ∧ ∃ S n, H p = some (.set S n))
  | _ => False
theorem tyV_is {pins : List (Addr × Obj)} {σ : St} {H : Hp} {s : Shared} {T : String} {x : V} {v : Value} (I : Inv X pins σ H s) (r : RelV x v) (ty : tyV X.K T x H) :
    s.TypeIs v T ∧ ∀ a, v = .ref a → ∃ ob, s.heap.get? a = some ob ∧ ob.dict = none := by
  cases x with
  | str z =>
    obtain ⟨t, rfl⟩ := r
    cases (show T = "str" from ty)
    exact ⟨typeIs_str s z t, fun _ e => nomatch e⟩
  | int i =>
    obtain ⟨t, rfl⟩ := r
    cases (show T = "int" from ty)
    exact ⟨typeIs_int s i t, fun _ e => nomatch e⟩
  | ref p =>
    cases r
    rcases ty with ⟨rfl, xs, hq⟩ | ⟨rfl, o, hk, hc, hd⟩ | ⟨rfl, hk⟩ | ⟨rfl, S, n, hk⟩
    · obtain ⟨its, _, pl, _⟩ := I.list hq
      refine ⟨pl.isList.typeIs, fun a e => ?_⟩
      cases e
      obtain ⟨o, n, e, c, hd, _⟩ := pl
      exact ⟨o, e, hd⟩
    · refine ⟨⟨o, I.kIn p o hk, hc⟩, fun a e => ?_⟩
      cases e
      exact ⟨o, I.kIn _ o hk, hd⟩
    · have z : ∃ o, s.heap.get? p = some o ∧ o.ExactDict := by
        rcases hk with ⟨kvs, hk⟩ | ⟨kvs, hk⟩
        · obtain ⟨_, _, _, _, o, _, _, e, ex, _⟩ := I.hok p _ hk
          exact ⟨o, e, ex⟩
        · obtain ⟨_, _, _, _, o, _, _, e, ex, _⟩ := I.hok p _ hk
          exact ⟨o, e, ex⟩
      obtain ⟨o, e, ex⟩ := z
      refine ⟨⟨o, e, ex.1⟩, fun a e2 => ?_⟩
      cases e2
      exact ⟨o, e, ex.2.1⟩
    · obtain ⟨o, _, _, _, e, ex, _⟩ := I.hok p _ hk
      refine ⟨⟨o, e, ex.1⟩, fun a e2 => ?_⟩
      cases e2
      exact ⟨o, e, ex.2.1⟩
  | _ => exact False.elim ty
def tBM (K : PySem.W.Frag) (T : String) (r : V → List V → Hp → VK → Prop) (to : TE) (t : TA) : TE := fun σ H Q => to σ H fun x H1 => tyV K T x H1 ∧ t σ H1 fun xs H2 => r x xs H2 Q
variable {o e : Expr} {es : List Expr} {to : TE} {t : TA} {name : Str} {apos cpos : Pos} {T id : String} {r : V → List V → Hp → VK → Prop}
theorem pe_bm (pa : PlainAttrs T) (slot : Slot T name id) (hty : typeOf (.builtin id) = pure (.type "method_descriptor")) (hm : MtR X id r) (ho : PE X o to) (ha : PA X (e :: es) t)
    (hbase : attributeBase o name X.env (eval o X.env) = eval o X.env := by rfl)
    (hfew : ((backTo cpos (starEach (e :: es) X.env)).all (fun x => !x.1) && (backToKw cpos (keywordEach [] X.env)).all (fun x => x.1.isSome)
      && decide ((e :: es).length + ([] : List Keyword).length + (if ([] : List Keyword).isEmpty then 0 else 1) < 30)) = true := by rfl)
    (hline : (apos.endLine == cpos.line) = true := by rfl) (hs : starEach (e :: es) X.env = (false, eval e X.env) :: starEach es X.env := by rfl) (hplain : (backTo cpos (starEach es X.env)).any (·.1) = false := by rfl) :
    PE X (.Call (.Attribute o name apos) (e :: es) [] cpos) (tBM X.K T r to t) := by
  intro pins s σ H Q I h
  refine wpAny_Call_method_late hbase hfew hline rfl (thn (ho pins s σ H _ I h) fun v s1 ⟨x, H1, I1, r1, ty, q1⟩ => ?_)
  obtain ⟨h1, h2⟩ := tyV_is I1 r1 ty
  refine ⟨T, id, pa, slot, hty, h1, h2, ?_⟩
  have hA := ha cpos pins s1 σ H1 _ I1 q1
  rw [hs] at hA ⊢
  refine Calls.callWith_builtin (by show (false || (backTo cpos (starEach es X.env)).any (·.1)) = false; rw [hplain] <;> rfl) (Calls.evalArgs_plain ?_)
  exact thn hA fun us s2 ⟨vs, H2, I2, r2, q2⟩ => hm pins s2 σ H2 x vs v us Q I2 r1 r2 q2
end
end L2
namespace L2
open PySem PySem.Spec PyProof.Rows
def MtM (X : Cx) (id : String) (r : V → List V → Hp → VK → Prop) : Prop :=
  ∀ (pins : List (Addr × Obj)) (s : Shared) (σ : St) (H : Hp) (x : V) (xs : List V) (v : Value) (us : List Value) (Q : VK), Inv X pins σ H s → RelV x v → Vals xs us → r x xs H Q →
    wpAny (model X.prog X.w) X.A (call (.builtin id) (v :: us)) (EP X pins σ Q) X.xe s
theorem Vals.one : ∀ {x : V} {us : List Value}, Vals [x] us → ∃ u, us = [u] ∧ RelV x u
  | _, _, .cons r .nil => ⟨_, rfl, r⟩
theorem Vals.two : ∀ {x y : V} {us : List Value}, Vals [x, y] us → ∃ u v, us = [u, v] ∧ RelV x u ∧ RelV y v
  | _, _, _, .cons r (.cons q .nil) => ⟨_, _, rfl, r, q⟩
theorem Vals.zero : ∀ {us : List Value}, Vals [] us → us = []
  | _, .nil => rfl
theorem Vals.dropLast {xs : List V} {us : List Value} (h : Vals xs us) : Vals xs.dropLast us.dropLast := by
  induction h with
  | nil => exact .nil
  | cons r t ih =>
    cases t with
    | nil => exact .nil
    | cons q t' => exact .cons r ih
theorem Vals.eraseIdx : ∀ {xs : List V} {us : List Value} (i : Nat), Vals xs us → Vals (xs.eraseIdx i) (us.eraseIdx i)
  | _, _, _, .nil => .nil
  | _, _, 0, .cons _ t => t
  | _, _, i + 1, .cons r t => .cons r (Vals.eraseIdx i t)
theorem Vals.reverse {xs : List V} {us : List Value} (h : Vals xs us) : Vals xs.reverse us.reverse := by
  induction h with
  | nil => exact .nil
  | cons r t ih => rw [List.reverse_cons, List.reverse_cons]; exact Vals.append ih (.cons r .nil)
theorem Vals.rep {xs : List V} {us : List Value} (h : Vals xs us) : ∀ k : Nat, Vals (List.replicate k xs).flatten (List.replicate k us).flatten
  | 0 => .nil
  | k + 1 => by
    rw [List.replicate_succ, List.replicate_succ, List.flatten_cons, List.flatten_cons]
    exact Vals.append h (Vals.rep h k)
theorem foldl_rep (its : List Value) : ∀ (k : Nat) (acc : List Value),
    List.foldl (fun x1 x2 => x1 ++ x2) acc.toArray (List.replicate k its.toArray) = (acc ++ (List.replicate k its).flatten).toArray
  | 0, acc => by simp
  | k + 1, acc => by
    have e : acc.toArray ++ its.toArray = (acc ++ its).toArray := by simp
    have e2 : (acc ++ its) ++ (List.replicate k its).flatten = acc ++ (List.replicate (k + 1) its).flatten := by
      rw [List.replicate_succ, List.flatten_cons, List.append_assoc]
    rw [← e2, ← foldl_rep its k (acc ++ its), ← e, List.replicate_succ, List.foldl_cons]
section
variable {X : Cx} {pins : List (Addr × Obj)} {σ : St} {H : Hp} {s : Shared} {l b : Addr} {xs ys zs : List V}
theorem Inv.lset {its its' : List Value} {n : Nat} {f : Array Value → Array Value} {t' : Nat} (I : Inv X pins σ H s) (hH : H l = some (.lst xs))
    (e : s.heap.get? l = some { cls := .type "list", data := .seq its.toArray n }) (hf : f its.toArray = its'.toArray) (hv : Vals ys its') (hz : ys.length ≤ sizeLine) :
    Inv X pins σ (upd H l (.lst ys)) { s with heap := s.heap.update l (Obj.mapSeq f), toks := t' } := by
  have q := PySem.IsL.update e f
  rw [hf] at q
  refine I.write (x := l) (e := l) (by rw [hH]; exact trivial) (.inl rfl) (fun b' u hb hu => (Heap.get?_update_other s.heap (Obj.mapSeq f) (Ne.symm hb)).trans hu) ⟨_, q⟩ ?_
  exact ⟨hz, its', _, hv, q⟩
theorem Inv.lnew {its : List Value} {t' : Nat} (I : Inv X pins σ H s) (hv : Vals ys its) (hz : ys.length ≤ sizeLine) :
    Inv X pins σ (upd H s.heap.objs.size (.lst ys)) { s with heap := s.heap.push { cls := .type "list", data := .seq its.toArray }, toks := t' } :=
  I.laid (fun _ _ q => Heap.get?_push_of_some _ q) (Nat.le_refl _) ⟨hz, its, 0, hv, Heap.get?_push_size _ rfl⟩
theorem Inv.fresh (I : Inv X pins σ H s) : H s.heap.objs.size = none := I.hok.fresh (Nat.le_refl _)
theorem Inv.lstM (I : Inv X pins σ H s) (hH : H l = some (.lst xs)) : xs.length ≤ sizeLine ∧ ∃ (its : List Value) (n : Nat), Vals xs its ∧ xs.length = its.length ∧ s.heap.get? l = some { cls := .type "list", data := .seq its.toArray n } := by
  obtain ⟨z, its, n, r, e⟩ := I.hok l _ hH
  exact ⟨z, its, n, r, r.length, e⟩
theorem notLongL {n : Nat} (h : n ≤ sizeLine) : Builtin.List.listTooLong n = false := by
  unfold Builtin.List.listTooLong
  exact decide_eq_false (by omega)
end
section
variable {X : Cx}
def rAppend : V → List V → Hp → VK → Prop := fun x vs H Q => ∃ l xs y, x = .ref l ∧ vs = [y] ∧ H l = some (.lst xs) ∧ xs.length < sizeLine ∧ Q .non (upd H l (.lst (xs ++ [y])))
theorem mt_append : MtM X "list.append" rAppend := by
  intro pins s σ H x vs v us Q I rx rv h
  obtain ⟨l, xs, y, rfl, rfl, hH, hz, q⟩ := h
  cases rx
  obtain ⟨u, rfl, ru⟩ := rv.one
  obtain ⟨z, its, n, r, hl, e⟩ := I.lstM hH
  refine call_meets F.slot_list_append ⟨_, e, rfl⟩ F.entry_list_append (F.args_list_append_2 _ _) (PySem.list_append l its.toArray n u (by rw [List.size_toArray]; omega)) ⟨e, ?_⟩
  refine ⟨.non, _, I.lset (its' := its ++ [u]) hH e (by simp) (r.append (.cons ru .nil)) ?_, rfl, q⟩
  rw [List.length_append, List.length_singleton]
  omega
def rCat : R2 := fun x y H Q => ∃ l b xs zs, x = .ref l ∧ y = .ref b ∧ H l = some (.lst xs) ∧ H b = some (.lst zs) ∧ xs.length + zs.length ≤ sizeLine ∧ ∀ p, H p = none → Q (.ref p) (upd H p (.lst (xs ++ zs)))
theorem op_cat : OpR X (binaryOp .Add) rCat := by
  intro pins s σ H x y v u Q I rx ry h
  obtain ⟨l, b, xs, zs, rfl, rfl, hH, hB, hz, q⟩ := h
  cases rx
  cases ry
  obtain ⟨z, its, n, r, hl, e⟩ := I.lstM hH
  obtain ⟨z2, its2, n2, r2, hl2, e2⟩ := I.lstM hB
  refine PySem.P.add_list e e2 ?_ (by rw [List.size_toArray, List.size_toArray]; omega)
  have ea : its.toArray ++ its2.toArray = (its ++ its2).toArray := by simp
  rw [ea]
  exact ⟨.ref _, _, I.lnew (t' := s.toks) (r.append r2) (by rw [List.length_append]; omega), rfl, q _ I.fresh⟩
def rRep : R2 := fun x y H Q => ∃ l k xs, x = .ref l ∧ y = .int k ∧ H l = some (.lst xs) ∧ -(2 ^ 63) ≤ k ∧ k < 2 ^ 63 ∧ xs.length * k.toNat ≤ sizeLine ∧
  ∀ p, H p = none → Q (.ref p) (upd H p (.lst (List.replicate k.toNat xs).flatten))
theorem len_rep {α : Type} (xs : List α) (k : Nat) : (List.replicate k xs).flatten.length = k * xs.length := by
  induction k with
  | zero => simp
  | succ k ih => rw [List.replicate_succ, List.flatten_cons, List.length_append, ih, Nat.succ_mul, Nat.add_comm]
theorem op_rep : OpR X (binaryOp .Mult) rRep := by
  intro pins s σ H x y v u Q I rx ry h
  obtain ⟨l, k, xs, rfl, rfl, hH, h1, h2, hz, q⟩ := h
  cases rx
  obtain ⟨t, rfl⟩ := ry
  obtain ⟨z, its, n, r, hl, e⟩ := I.lstM hH
  have hlen : its.toArray.size * k.toNat ≤ sizeLine := by rw [List.size_toArray, ← hl]; exact hz
  have hcap : ¬ its.toArray.size * k.toNat > (2 ^ 63 - 1) / 8 := by
    have : (sizeLine : Nat) ≤ (2 ^ 63 - 1) / 8 := by decide
    omega
  have hfit : ¬ (!Builtin.List.listFitsIndex k) = true := by
    rw [fitsIndex_both h1 h2]
    exact Bool.false_ne_true
  have hlong : ¬ Builtin.List.listTooLong (its.toArray.size * k.toNat) = true := by
    rw [notLongL hlen]
    exact Bool.false_ne_true
  have hnew : List.foldl (fun x1 x2 => x1 ++ x2) #[] (List.replicate (if its.toArray.isEmpty = true then 0 else k.toNat) its.toArray) = (List.replicate k.toNat its).flatten.toArray := by
    have f0 : ∀ m : Nat, List.foldl (fun x1 x2 => x1 ++ x2) #[] (List.replicate m its.toArray) = (List.replicate m its).flatten.toArray := fun m => by
      have := foldl_rep its m []
      rw [List.nil_append] at this
      exact this
    rw [f0]
    cases its with
    | nil => simp
    | cons a r' => rw [if_neg (by simp)]
  refine wpAny_binaryOp_repeat_ref (T := "list") (U := "int") (by decide) ⟨_, e, rfl⟩ (fun s' => typeIs_int s' k t) noFill_list_mul F.fills_int_mul F.slot_int_rmul repeat_list F.slot_int_index.lookup
    (call_meets F.slot_int_rmul (typeIs_int s k t) F.entry_int_rmul (F.args_int_rmul_2 _ _) (int___rmul___int_list k t l its.toArray n)
      ⟨e, rfl, ⟨_, e, rfl⟩, call_meets F.slot_list_mul ⟨_, e, rfl⟩ F.entry_list_mul (F.args_list_mul_2 _ _) (AutoListH.list___mul___list_int_3 l its.toArray n k t hfit hcap hlong) ⟨e, ?_⟩⟩)
  rw [hnew]
  exact ⟨.ref _, _, I.lnew (t' := s.toks) (r.rep k.toNat) (by rw [len_rep, Nat.mul_comm]; exact hz), rfl, q _ I.fresh⟩
end
section
variable {prog : Program} {w : World} {A : Around} {E : Value → Shared → Prop} {s : Shared}
end
section
variable {X : Cx}
end
end L2
namespace Att
open PySem PySem.W PySem.Calls PyProof.Rows
theorem ints_of_wellAll {P : Params} {h : Heap} : ∀ (ns : List Int) (vs : List Value), WellAll P h vs (ns.map WData.int) → IntsAre vs ns := by
  intro ns
  induction ns with
  | nil =>
    intro vs w
    rw [List.map_nil] at w
    cases w
    exact .nil
  | cons n ns ih =>
    intro vs w
    rw [List.map_cons] at w
    cases w with
    | cons a b =>
      cases a
      exact .cons _ _ (ih _ b)
theorem script_of {l : OpenLaw} {n : Nat} (hn : l.most = some n) {P : Params} {h : Heap} {args : List WData} {vals : List Value}
    (hpre : l.row.toRowW.claim.pre args = true) (hwl : WellAll P h vals args) :
    ∃ a vs ns, vals = [Value.ref a] ∧ args = [WData.list (ns.map WData.int)] ∧ h.get? a = some { cls := .type "list", data := .seq vs.toArray } ∧ IntsAre vs ns ∧ ns.length ≤ n := by
  have hsh : WShape.hasAll [] args [.list .int] = true := (pre_splitW hpre).1
  have hc : l.pre.holds [] { args := args } = true := (pre_splitW hpre).2
  obtain ⟨d, r, rfl, h1, h2⟩ := hasAllW_cons hsh
  obtain rfl := hasAllW_nil h2
  obtain ⟨xs, rfl, h3⟩ := hasW_list h1
  obtain ⟨ns, rfl⟩ := items_int h3
  have hlen : ns.length ≤ n := by
    unfold OpenLaw.pre at hc
    have h4 : (WTm.not (.lt (.lit (.int (n : Int))) (.len (.arg 0)))).holds [] { args := [.list (ns.map .int)] } = true := by
      have h4 := (holds_andW hc).1
      rw [hn] at h4
      exact h4
    have h5 := condW_of h4 (w_not (w_lt w_lit (w_len_list (w_arg rfl))))
    rw [List.length_map] at h5
    refine Nat.le_of_not_lt fun q => ?_
    have q' : (n : Int) < ((ns.length : Nat) : Int) := by omega
    first
      | (rw [decide_eq_true q'] at h5; exact absurd h5 (by decide))
      | (simp at h5; omega)
  cases hwl with
  | cons w1 w2 =>
    cases w2
    cases w1 with
    | list ho hall => exact ⟨_, _, ns, rfl, rfl, ho, ints_of_wellAll ns _ hall, hlen⟩
theorem post_true (l : OpenLaw) (args : List WData) : l.row.toRowW.claim.post args (.bool true) args = true :=
  postW_of (r := l.row.toRowW) (X := (true == true))
    (show WShape.has [] (.bool true) .bool = true by first | rfl | decide | simp [WShape.has, WShape.arms, WShape.armsAll])
    (show (WTm.eq .res (.lit (.bool true))).value [] { args := args, res := some (.bool true), after := args } = some (.bool (true == true)) from w_eq_bool (w_res rfl) w_lit) rfl
theorem attach_call {l : OpenLaw} {n : Nat} {q : Program} {loose : List Str} {XP : (Str → Option Value) → Heap → Prop} {YP : World → Heap → Prop} {d : DefRec}
    (hn : l.most = some n) (hdf : d.params.defaults = [])
    (call : ∀ (w : World) (s₀ s₁ : Shared) (mg mb : Str → Option Value) (fa : Addr) (o : Obj) (pm cd doc : Value) (a : Addr) (vs : List Value) (ns : List Int),
      Ground q loose [] XP w s₀ mg mb s₁.heap → YP w s₁.heap →
      s₁.heap.get? fa = some o → o.data = .func (docDef d.name d.params d.body d.scope pm cd doc) → s₁.heap.CodeRec cd d.name → mg d.name = some (.ref fa) →
      s₁.heap.get? a = some { cls := .type "list", data := .seq vs.toArray } → IntsAre vs ns → ns.length ≤ n → s₁.gens = #[] →
      codeAny (model l.prog w) callerA (.call (.ref fa) ⟨[.ref a], []⟩) (fun r s' => r = .ok (.ret (.bool true)) ∧ OldK s₁.heap s'.heap ∧ s'.os = s₁.os ∧ AllBare s'.gens) s₁) :
    WalkO q loose XP YP l.row.toRowW d [] (fun f vs => PySem.call f vs) := by
  intro w s₀ s₁ mg mb G Y fa o pm cd doc dV kV ho hd hcd hD hmg hg args vals as hpre hlay hrd hwl hlo
  obtain rfl : dV = .none := Dflts.none hD hdf
  obtain rfl : kV = .none := Dflts.noKw hD
  obtain ⟨a, vs, ns, rfl, rfl, hobj, hints, hlen⟩ := script_of hn hpre hwl
  refine enter_call (codeAny_mono (call w s₀ s₁ mg mb fa o pm cd doc a vs ns G Y ho (fd_plain hd) hcd hmg hobj hints hlen hg) fun r s' hq => ?_)
  obtain ⟨rfl, h2, h3, h4⟩ := hq
  exact ⟨.inl ⟨.bool true, .bool true, [], rfl, fun _ => rfl, .bool true, post_true l _, fun _ => ⟨List.Pairwise.nil, fun _ hm => (nomatch hm)⟩⟩, h2, h3, h4⟩
section
variable {prog : Program} {w : World} {A : Around} {E : Value → Shared → Prop} {s : Shared} {K : Frag}
end
end Att
namespace L2
open PySem PySem.Spec PyProof.Rows
theorem vals_ints : ∀ {vs : List Value} {ns : List Int}, IntsAre vs ns → Vals (ns.map V.int) vs
  | _, _, .nil => .nil
  | _, _, .cons n t h => .cons ⟨t, rfl⟩ (vals_ints h)
def Only (H : Hp) : Prop := ∀ b, H b = none ∨ ∃ o xs, H b = some (.frz o (.lst xs))
theorem law_call {P : Program} {w : World} {K : PySem.W.Frag} {mg mb : Str → Option Value} {CX : CXT} {k : Nat} {fa a : Addr} {fd : FuncData} {x : Str} {sp : Sp} {s₁ : Shared} {vs : List Value} {ns : List Int}
    (KX : K.In s₁.heap) (hns : s₁.heap.Ns mainGlobals mg) (hb : s₁.heap.Ns builtinsNs mb) (hbb : ∀ x : Str, x ≠ "__name__" → mb x = bootBuiltins x) (hlim : s₁.heap.NoLimit) (hg : s₁.gens = #[])
    (ha : s₁.heap.get? a = some { cls := .type "list", data := .seq vs.toArray }) (hi : IntsAre vs ns) (hl : ns.length ≤ sizeLine) (hr : Room k callerA)
    (F : ∀ base : Heap, K.In base → base.Ns mainGlobals mg → FnOk P w K mg base CX k fa fd [x] sp) (hbind : ∀ (s : Shared) (u : Value), BindsTo s fd ⟨[u], []⟩ [(x, u)])
    (hsp : ∀ H : Hp, Only H → SqL K H a (ns.map V.int) → sp [.ref a] H (fun v _ => v = .bl true) fun _ _ _ => False)
    (hCX : ∀ H e s', CX [] H s₁ (fun _ _ _ => False) e s' → False) :
    codeAny (model P w) callerA (.call (.ref fa) ⟨[.ref a], []⟩) (fun r s' => r = .ok (.ret (.bool true)) ∧ OldK s₁.heap s'.heap ∧ s'.os = s₁.os ∧ AllBare s'.gens) s₁ := by
  have rv := vals_ints hi
  have lenV := hi.length
  have core : ∀ H : Hp, Only H → SqL K H a (ns.map V.int) → HOk P w H s₁.heap → (∀ b, H b ≠ none → b = a) → (H a ≠ none → K.lookup a = none) →
      codeAny (model P w) callerA (.call (.ref fa) ⟨[.ref a], []⟩) (fun r s' => r = .ok (.ret (.bool true)) ∧ OldK s₁.heap s'.heap ∧ s'.os = s₁.os ∧ AllBare s'.gens) s₁ := by
    intro H hO hS hok hA hK
    have base_of : ∀ {b : Addr} {o : Obj}, s₁.heap.get? b = some o → H b = none → (hidT s₁.heap H).get? b = some o := fun e n => hidT_get e n
    have noA : ∀ {b : Addr} {o : Obj} {es : Array DictEntry} {ep : Nat}, s₁.heap.get? b = some o → o.data = .dict es ep → H b = none := fun {b o es ep} e d => by
      cases q : H b with
      | none => rfl
      | some u =>
        have e' : b = a := hA b (by rw [q]; simp)
        subst e'
        rw [ha] at e; cases e
        have d' : Data.seq vs.toArray _ = Data.dict es ep := d
        cases d'
    have nsK : ∀ {b : Addr} {m : Str → Option Value}, s₁.heap.Ns b m → (hidT s₁.heap H).Ns b m := fun {b m} ⟨o, es, ep, e, d, r⟩ => ⟨o, es, ep, base_of e (noA e d), d, r⟩
    have hKb : K.In (hidT s₁.heap H) := fun b o e => base_of (KX b o e) (by
      cases q : H b with
      | none => rfl
      | some u =>
        have e' : b = a := hA b (by rw [q]; simp)
        subst e'
        rw [hK (by rw [q]; simp)] at e; cases e)
    have hM : Mod K mg (hidT s₁.heap H) := ⟨hKb, nsK hns, ⟨mb, nsK hb, hbb⟩, let ⟨mc, h1, h2⟩ := hlim; ⟨mc, nsK h1, h2⟩⟩
    have e0 : Env0 P w K mg (hidT s₁.heap H) callerA [] s₁ H := ⟨rfl, hM, fun b o e => of_hidT e, Nat.le_of_eq (hidT_size _ _), trivial, fun b hb => absurd (show b ∈ ([] : List Addr) from hb) (by simp), hok, .of_eq hg⟩
    refine codeAny_mono ((F _ hKb (nsK hns)).run callerA [] s₁ H ⟨[.ref a], []⟩ [.ref a] [.ref a] _ _ hr e0 (hbind s₁ (.ref a)) (.cons rfl .nil) (hsp H hO hS)) fun r s' h => ?_
    cases r with
    | error e => exact (hCX H e s' h).elim
    | ok fl =>
      cases fl with
      | next => exact False.elim h
      | brk => exact False.elim h
      | cont => exact False.elim h
      | ret u =>
        obtain ⟨v, H', os, bare, un, hok', r', q⟩ := h
        have q' : v = .bl true := q
        subst q'
        obtain rfl : u = Value.bool true := r'
        refine ⟨rfl, OldK.of_keep fun b o e => ?_, os, bare⟩
        cases q : H b with
        | none => exact un.keep b o e q (by intro z; exact absurd (show b ∈ ([] : List Addr) from z) (by simp)) (by simp)
        | some u =>
          rcases hO b with z | ⟨ob, xs, z⟩
          · rw [q] at z; cases z
          · have z2 := un.frzs b ob _ z
            obtain ⟨e1, _⟩ := hok b _ z
            obtain ⟨e2, _⟩ := hok' b _ z2
            rw [e] at e1; cases e1
            exact e2
  cases hk : K.lookup a with
  | some o =>
    have e := KX a o hk
    rw [ha] at e
    cases e
    refine core (fun _ => none) (fun _ => .inl rfl) (.inr ⟨_, vs.toArray, _, hk, rfl, rfl, rfl, by rw [List.size_toArray, lenV]; exact hl, by simpa using rv⟩) (fun b u z => by have z' : (none : Option HO) = some u := z; cases z') (fun b z => absurd rfl z) fun z => absurd rfl z
  | none =>
    refine core (fun b => if b = a then some (.frz { cls := .type "list", data := .seq vs.toArray } (.lst (ns.map V.int))) else none) (fun b => ?_) (.inl (.inr ⟨{ cls := .type "list", data := .seq vs.toArray }, if_pos rfl⟩)) (fun b u z => ?_) (fun b z => ?_) fun _ => hk
    · by_cases hb : b = a
      · exact .inr ⟨_, _, if_pos hb⟩
      · exact .inl (if_neg hb)
    · by_cases hb : b = a
      · have z' := (if_pos hb).symm.trans z
        cases z'
        subst hb
        exact ⟨ha, by rw [List.length_map]; exact hl, vs, _, rv, ha⟩
      · have z' := (if_neg hb).symm.trans z
        cases z'
    · by_cases hb : b = a
      · exact hb
      · exact absurd (if_neg hb) z
end L2
namespace L2
open PySem PySem.Spec PyProof.Rows
theorem walk_of {l : PySem.W.OpenLaw} {n k : Nat} {q : Program} {loose : List Str} {XP : (Str → Option Value) → Heap → Prop} {YP : World → Heap → Prop} {d : DefRec} {K : Params → PySem.W.Frag} {CX : World → CXT} {sp : World → Sp} {x : Str}
    (hn : l.most = some n) (hn2 : n ≤ sizeLine) (hdf : d.params.defaults = []) (hr : Room k callerA)
    (hY : ∀ (w : World) (h : Heap), YP w h → (K w.params).In h)
    (F : ∀ (w : World) (mg : Str → Option Value) (fa : Addr) (h : Heap), (K w.params).In h → h.Ns mainGlobals mg → mg d.name = some (.ref fa) →
      ∃ fd : FuncData, (∀ (s : Shared) (u : Value), BindsTo s fd ⟨[u], []⟩ [(x, u)]) ∧
        ∀ base : Heap, (K w.params).In base → base.Ns mainGlobals mg → FnOk l.prog w (K w.params) mg base (CX w) k fa fd [x] (sp w))
    (hsp : ∀ (w : World) (H : Hp) (a : Addr) (ns : List Int), ns.length ≤ n → Only H → SqL (K w.params) H a (ns.map V.int) → sp w [.ref a] H (fun v _ => v = .bl true) fun _ _ _ => False)
    (hCX : ∀ (w : World) (H : Hp) (s : Shared) (e : Value) (s' : Shared), CX w [] H s (fun _ _ _ => False) e s' → False) :
    PySem.W.WalkO q loose XP YP l.row.toRowW d [] (fun f vs => PySem.call f vs) := by
  refine Att.attach_call hn hdf fun w s₀ s₁ mg mb fa o pm cd doc a vs ns G Y ho hd hcd hmg hobj hints hlen hg => ?_
  have KX := hY w _ Y
  obtain ⟨fd, hb, hF⟩ := F w mg fa _ KX G.T.g hmg
  exact law_call KX G.T.g G.T.b G.T.builtins G.T.nolimit hg hobj hints (Nat.le_trans hlen hn2) hr hF hb (fun H hO hS => hsp w H a ns hlen hO hS) fun H e s' => hCX w H s₁ e s'
end L2
namespace L2
open PySem PySem.Spec PyProof.Rows
def defArgs (s : Stmt) : Arguments := match s with
  | .FunctionDef _ a _ _ _ _ _ _ _ _ => a
  | _ => { posonlyargs := [], args := [], vararg := none, kwonlyargs := [], kw_defaults := [], kwarg := none, defaults := [] }
def defBody (s : Stmt) : List Stmt := match s with
  | .FunctionDef _ _ b _ _ _ _ _ _ _ => b
  | _ => []
def defScope (s : Stmt) : Scope := match s with
  | .FunctionDef _ _ _ _ _ _ sc _ _ _ => sc
  | _ => { kind := .function, names := [], isGenerator := false, isCoroutine := false }
abbrev CX0 : CXT := fun _ _ _ _ _ _ => False
abbrev E0 : XK := fun _ _ _ => False
theorem pass0 {X : Cx} : Passes CX0 X E0 := fun _ _ _ _ _ _ _ h => h.elim
structure Fun (K : PySem.W.Frag) (x qual : Str) (st : Stmt) (f : Addr) (fd : FuncData) : Prop where
  ex : ∃ (oc : Value) (od : Option Addr) (kV doc pm : Value) (an : Option Addr) (cdv ct : Value) (osl : Array (Option Value)),
    fd = PySem.W.fnOf x qual (defArgs st) (defBody st) (defScope st) .none kV doc pm an cdv ct ∧ K.lookup f = some ⟨oc, od, .func fd, osl⟩ ∧ PySem.W.codeIn K cdv qual = true
  kp : PySem.W.keepIn K (.ref f) = true
section
variable {P : Program} {w : World} {K : PySem.W.Frag} {mg : Str → Option Value} {base : Heap}
theorem Fun.ok {x qual : Str} {st : Stmt} {f : Addr} {fd : FuncData} {N ps : List Str} {k : Nat} {sp : Sp} (F : Fun K x qual st f fd) (S : FnScope N ps (defScope st)) (len : ∀ vs H Q E, sp vs H Q E → vs.length = ps.length)
    (hbody : ∀ (cdv : Value) (A : Around) (outer : List Env) (s : Shared) (H : Hp) (vs : List V) (Q : VK) (E : XK), Room k (A.deeper (envOfC qual (defScope st) s.heap.objs.size f cdv)) → sp vs H Q E →
      ∃ t, PSs (cxOf CX0 P w K mg base N qual (defScope st) f cdv A outer s H E).nox (defBody st) t ∧ t { nx := fun _ H' => Q .non H', rt := Q } (start N vs) H) : FnOk P w K mg base CX0 (k + 1) f fd ps sp := by
  obtain ⟨oc, od, kV, doc, pm, an, cdv, ct, osl, rfl, lk, hcd⟩ := F.ex
  refine fn_of lk hcd S len fun A outer s H vs Q E hr hsp => ?_
  obtain ⟨t, h, q⟩ := hbody cdv A outer s H vs Q E hr hsp
  exact ⟨t, h.nox, q⟩
theorem Fun.binds {x qual : Str} {st : Stmt} {f : Addr} {fd : FuncData} {ps : List Str} (F : Fun K x qual st f fd)
    (h : ∀ (kV doc pm : Value) (an : Option Addr) (cdv ct : Value) (us : List Value), us.length = ps.length → bindArgs (PySem.W.fnOf x qual (defArgs st) (defBody st) (defScope st) .none kV doc pm an cdv ct) ⟨us, []⟩ = pure (ps.zip us)) : Binds K fd ps [] := by
  obtain ⟨oc, od, kV, doc, pm, an, cdv, ct, osl, rfl, lk, hcd⟩ := F.ex
  exact .all (h kV doc pm an cdv ct)
theorem fun_mk {x qual : Str} {st : Stmt} {f : Addr} {oc : Value} {od an : Option Addr} {osl : Array (Option Value)} {kV doc pm cdv ct : Value} (l : K.lookup f = some ⟨oc, od, .func (PySem.W.fnOf x qual (defArgs st) (defBody st) (defScope st) .none kV doc pm an cdv ct), osl⟩)
    (c : PySem.W.codeIn K cdv qual = true) (k : PySem.W.keepIn K (.ref f) = true) : Fun K x qual st f (PySem.W.fnOf x qual (defArgs st) (defBody st) (defScope st) .none kV doc pm an cdv ct) := ⟨⟨oc, od, kV, doc, pm, an, cdv, ct, osl, rfl, l, c⟩, k⟩
end
theorem hu_of {A : Around} {k : Nat} (hr : Room k A) : A.units + 1 < cLine := Nat.lt_of_le_of_lt (Nat.add_le_add_left (by decide : 1 ≤ 64) _) hr.units
theorem small1000 {n : Nat} (h : n ≤ 1000) : n < sizeLine := Nat.lt_of_le_of_lt h (by decide)
section
variable {X : Cx}
theorem pv (i : Nat) {x : Str} {pos : Pos} (hN : X.N[i]? = some x := by rfl) (hv : Vis X.env.scope x := by first | exact Or.inl rfl | exact Or.inr (Or.inl rfl) | exact Or.inr (Or.inr rfl)) (hd : (x == ("__debug__" : Str)) = false := by decide)
    (hcd : (x == ("__classdict__" : Str)) = false := by decide) : PE X (.Name x pos) (tVar i) := pe_var hN hv hd hcd
end
theorem ite2 {c A B : Prop} [Decidable c] (h1 : c → A) (h2 : ¬ c → B) : if c then A else B := by
  by_cases h : c
  · rw [if_pos h]
    exact h1 h
  · rw [if_neg h]
    exact h2 h
def Same (H H' : Hp) : Prop := ∀ b o, H b = some o → H' b = some o
theorem Same.refl (H : Hp) : Same H H := fun _ _ h => h
theorem Same.trans {H H1 H2 : Hp} (a : Same H H1) (b : Same H1 H2) : Same H H2 := fun c o h => b c o (a c o h)
theorem Same.free {H H' : Hp} (e : Same H H') {l : Addr} (h : H' l = Option.none) : H l = Option.none := by
  cases q : H l with
  | none => rfl
  | some o =>
    rw [e l o q] at h
    cases h
theorem Same.seq {K : PySem.W.Frag} {H H' : Hp} {a : Addr} {xs : List V} (e : Same H H') (h : SqL K H a xs) : SqL K H' a xs := by
  rcases h with (h | ⟨o, h⟩) | h
  · exact .inl (.inl (e _ _ h))
  · exact .inl (.inr ⟨o, e _ _ h⟩)
  · exact .inr h
end L2
set_option linter.all false
set_option maxRecDepth 100000
namespace L2
open PySem PySem.Spec PyProof.Rows
def clOf (scope : Scope) (env : Env) : List (Str × Addr) := ((scope.names.filter fun p => p.2 == .free).map fun p => (p.1, (env.cells.lookup p.1).getD 0)).reverse
theorem clos_go (env : Env) : ∀ (names : List (Str × NameKind)) (cs : List (Str × Addr)), (∀ p ∈ names, p.2 = .free → ∃ c, env.cells.lookup p.1 = some c) →
    (forIn names cs fun (x : Str × NameKind) (r : List (Str × Addr)) => match x with
      | (name, kind) => if (kind == .free) = true then do let c ← cellOf env name; pure (ForInStep.yield ((name, c) :: r)) else pure (ForInStep.yield r) : Sem (List (Str × Addr))) =
    pure (((names.filter fun p => p.2 == .free).map fun p => (p.1, (env.cells.lookup p.1).getD 0)).reverse ++ cs) := by
  intro names
  induction names with
  | nil => intro cs _; rfl
  | cons p r ih =>
    intro cs h
    obtain ⟨x, k⟩ := p
    have hr : ∀ p ∈ r, p.2 = .free → ∃ c, env.cells.lookup p.1 = some c := fun p hp => h p (List.mem_cons_of_mem _ hp)
    rw [List.forIn_cons]
    by_cases hk : k = .free
    · subst hk
      obtain ⟨c, hc⟩ := h (x, .free) List.mem_cons_self rfl
      have hc' : cellOf env x = pure c := by unfold cellOf; rw [show env.cells.lookup x = some c from hc]
      simp only [beq_self_eq_true, if_true, hc', pure_bind]
      rw [ih _ hr]
      have hc2 : env.cells.lookup x = some c := hc
      simp [hc2]
    · have hb : (k == NameKind.free) = false := by simpa using hk
      simp only [hb, Bool.false_eq_true, if_false, pure_bind]
      rw [ih _ hr]
      simp [hb]
theorem clos_eq {scope : Scope} {env : Env} (h : ∀ p ∈ scope.names, p.2 = .free → ∃ c, env.cells.lookup p.1 = some c) : closureFor scope env = pure (clOf scope env) := by
  have := clos_go env scope.names [] h
  simp only [List.append_nil] at this
  unfold closureFor
  simp only [clOf]
  rw [← this]
  simp
theorem lookup_fun {g : Str → Addr} : ∀ (l : List Str) (y : Str), (l.map fun x => (x, g x)).lookup y = if y ∈ l then some (g y) else none
  | [], y => by simp
  | a :: r, y => by
    rw [List.map_cons, List.lookup_cons, lookup_fun r y]
    by_cases e : y = a
    · subst e; simp
    · have : (y == a) = false := by simpa using e
      simp [this, e]
theorem clOf_lookup {scope : Scope} {env : Env} (y : Str) : (clOf scope env).lookup y = if (y, NameKind.free) ∈ scope.names then some ((env.cells.lookup y).getD 0) else none := by
  have e : clOf scope env = ((scope.names.filter fun p => p.2 == .free).map (·.1)).reverse.map fun x => (x, (env.cells.lookup x).getD 0) := by
    unfold clOf
    rw [← List.map_reverse, ← List.map_reverse, List.map_map]
    rfl
  rw [e, lookup_fun]
  have : y ∈ ((scope.names.filter fun p => p.2 == .free).map (·.1)).reverse ↔ (y, NameKind.free) ∈ scope.names := by
    rw [List.mem_reverse, List.mem_map]
    constructor
    · rintro ⟨⟨a, k⟩, hp, rfl⟩
      have := List.mem_filter.mp hp
      have hk : k = .free := by simpa using this.2
      subst hk
      exact this.1
    · intro h
      exact ⟨_, List.mem_filter.mpr ⟨h, by simp⟩, rfl⟩
  by_cases h : (y, NameKind.free) ∈ scope.names
  · rw [if_pos h, if_pos (this.mpr h)]
  · rw [if_neg h, if_neg (fun z => h (this.mp z))]
structure CompScope (scope : Scope) (cs : List Str) : Prop where
  kind : scope.kind = .function
  cell : ∀ y ∈ scope.names, y.2 ≠ .cell
  names : ∀ y ∈ scope.names, y.2 = .local → scope.names.lookup y.1 = some .local
  frees : ∀ y ∈ scope.names, y.2 = .free → y.1 ∈ cs
def Caps (X : Cx) (scope : Scope) : List Str → List Nat → Prop
  | [], [] => True
  | x :: cs, i :: is => (scope.names.lookup x = some .free ∧ (X.env.kindOf x = some .cell ∨ X.env.kindOf x = some .free) ∧ X.N[i]? = some x) ∧ Caps X scope cs is
  | _, _ => False
theorem Caps.get {X : Cx} {scope : Scope} : ∀ {cs : List Str} {is : List Nat}, Caps X scope cs is → ∀ (k : Nat) (x : Str), cs[k]? = some x →
    ∃ i, is[k]? = some i ∧ scope.names.lookup x = some .free ∧ (X.env.kindOf x = some .cell ∨ X.env.kindOf x = some .free) ∧ X.N[i]? = some x
  | [], [], _, k, x, e => by simp at e
  | y :: cs, i :: is, h, 0, x, e => by
    have e' : y = x := by simpa using e
    subst e'
    exact ⟨i, rfl, h.1⟩
  | y :: cs, i :: is, h, k + 1, x, e => by
    obtain ⟨j, h1, h2⟩ := Caps.get h.2 k x (by simpa using e)
    exact ⟨j, by simpa using h1, h2⟩
  | [], _ :: _, h, _, _, _ => h.elim
  | _ :: _, [], h, _, _, _ => h.elim
theorem Caps.length {X : Cx} {scope : Scope} : ∀ {cs : List Str} {is : List Nat}, Caps X scope cs is → cs.length = is.length
  | [], [], _ => rfl
  | _ :: _, _ :: _, h => congrArg (· + 1) h.2.length
  | [], _ :: _, h => h.elim
  | _ :: _, [], h => h.elim
def Cx.comp (X : Cx) (N' : List Str) (scope : Scope) (C : Addr) (s₀ : Shared) (H₀ : Hp) (fp : List Addr) (pins : List (Addr × Obj)) : Cx :=
  { X with N := N', s₀ := s₀, H₀ := H₀, env := compEnvC scope (clOf scope X.env) C X.env, outer := X.stack, ex := fp, fn := fun _ => false, pn := X.pn ++ pins, xe := fun _ _ => False }
def PF (X : Cx) (ifs : List Expr) (t : TT) : Prop :=
  ∀ (pins : List (Addr × Obj)) (s : Shared) (σ : St) (H : Hp) (Q : Bool → Hp → Prop), Inv X pins σ H s → t σ H Q →
    wpAny (model X.prog X.w) X.A (forIn ifs true fun c r => if r = true then do let ok ← isTrue c X.env (eval c X.env); pure (ForInStep.yield ok) else pure (ForInStep.yield r)) (TP X pins σ Q) X.xe s
def tTrue : TT := fun _ H Q => Q true H
theorem pf_nil {X : Cx} : PF X [] tTrue := fun _ _ _ H _ I h => wpAny_tests_nil ⟨H, I, h⟩
theorem pf_one {X : Cx} {c : Expr} {t : TT} (h : PT X c t) : PF X [c] t := fun pins s σ H Q I q => wpAny_tests_one (h pins s σ H Q I q)
def GKeep (g : TG) (nt : Nat) : Prop := ∀ v σ H Q, g v σ H Q → g v σ H fun σ' H' => Q σ' H' ∧ σ'.length = σ.length ∧ ∀ j, nt ≤ j → σ'[j]? = σ[j]?
theorem gk_name {i nt : Nat} (h : i < nt) : GKeep (gName i) nt := fun v σ H Q q => ⟨q, by simp, fun j hj => by rw [List.getElem?_set_ne]; omega⟩
def GsKeep (g : TGs) (nt : Nat) : Prop := ∀ vs σ H Q, g vs σ H Q → g vs σ H fun σ' H' => Q σ' H' ∧ σ'.length = σ.length ∧ ∀ j, nt ≤ j → σ'[j]? = σ[j]?
def compSt (nt : Nat) (idx : List Nat) (σ : St) : St := List.replicate nt none ++ idx.map fun k => (σ[k]?).getD none
def CompW (g : TG) (ti : TT) (te : TE) (σ0 : St) (Q : VK) (J : It) (H1 : Hp) : Prop := ∃ W : Nat → Nat → List V → Hp → Prop, (∃ m, W 0 m [] H1) ∧ ∀ i m ys H, W i m ys H →
    (J.stop i H ∧ ∀ p, H p = none → Q (.ref p) (upd H p (.lst ys))) ∨
    (J.go i H ∧ ∀ x H', J.yld i H x H' → g x σ0 H' fun σ2 H2 => ti σ2 H2 fun b H3 =>
      if b = true then te σ2 H3 fun y H4 => ys.length < sizeLine ∧ ∃ m', m' < m ∧ W (i + 1) m' (ys ++ [y]) H4 else ∃ m', m' < m ∧ W (i + 1) m' ys H3)
def tComp (wi : TI) (g : TG) (ti : TT) (te : TE) (nt : Nat) (idx : List Nat) : TE := fun σ H Q => wi σ H fun J H1 => CompW g ti te (compSt nt idx σ) Q J H1
theorem HOk.track {P : Program} {w : World} {H : Hp} {h : Heap} {a : Addr} {o : HO} (x : HOk P w H h) (hn : H a = none) (new : ObjOk P w (upd H a o) h a o) : HOk P w (upd H a o) h := fun b u e => by
  by_cases hb : b = a
  · subst hb; rw [upd_same] at e; cases e; exact new
  · rw [upd_ne hb] at e
    exact (x b u e).stay (fun c v _ q => q) (fun c q => by rw [upd_ne (ne_of_none q hn)]; exact q) fun c xs q => by rw [upd_ne (ne_of_none q hn)]; exact q
abbrev accObj (its : List Value) (n : Nat) : Obj := { cls := .type "list", dict := none, data := .seq its.toArray n, slots := #[] }
section
variable {X : Cx} {scope : Scope} {cs : List Str} {idx : List Nat}
theorem free_of_relabel {env : Env} (hcell : ∀ y ∈ scope.names, y.2 ≠ .cell) {x : Str} (h : (relabel scope env).names.lookup x = some .cell ∨ (relabel scope env).names.lookup x = some .free) : (x, NameKind.free) ∈ scope.names := by
  have key : ∀ (names : List (Str × NameKind)), (∀ y ∈ names, y.2 ≠ .cell) → ∀ k, (k = NameKind.cell ∨ k = .free) →
      (names.map fun (n, k) => if (k == NameKind.free && env.scope.kind == .function && env.kindOf n == some .cell) = true then (n, NameKind.cell) else (n, k)).lookup x = some k → (x, NameKind.free) ∈ names := by
    intro names
    induction names with
    | nil => intro _ k _ e; simp at e
    | cons p r ih =>
      intro hc k hk e
      obtain ⟨n, k0⟩ := p
      rw [List.map_cons] at e
      by_cases hx : x = n
      · subst hx
        by_cases hcond : (k0 == NameKind.free && env.scope.kind == .function && env.kindOf x == some .cell) = true
        · have hk0 : k0 = .free := by simp only [Bool.and_eq_true, beq_iff_eq] at hcond; exact hcond.1.1
          subst hk0
          exact List.mem_cons_self
        · simp only [hcond] at e
          have e' : k0 = k := by simpa using e
          subst e'
          rcases hk with rfl | rfl
          · exact absurd rfl (hc _ List.mem_cons_self)
          · exact List.mem_cons_self
      · have hb : (x == n) = false := by simpa using hx
        have e2 : (r.map fun (n, k) => if (k == NameKind.free && env.scope.kind == .function && env.kindOf n == some .cell) = true then (n, NameKind.cell) else (n, k)).lookup x = some k := by
          by_cases hcond : (k0 == NameKind.free && env.scope.kind == .function && env.kindOf n == some .cell) = true
          · simp only [hcond, if_true] at e
            rw [List.lookup_cons, hb] at e
            exact e
          · simp only [hcond] at e
            simp only [Bool.false_eq_true, if_false] at e
            rw [List.lookup_cons, hb] at e
            exact e
        exact List.mem_cons_of_mem _ (ih (fun y hy => hc y (List.mem_cons_of_mem _ hy)) k hk e2)
  rcases h with h | h
  · exact key scope.names hcell .cell (.inl rfl) h
  · exact key scope.names hcell .free (.inr rfl) h
theorem relabel_free {env : Env} {x : Str} : ∀ {names : List (Str × NameKind)}, names.lookup x = some .free →
    (names.map fun (n, k) => if (k == NameKind.free && env.scope.kind == .function && env.kindOf n == some .cell) = true then (n, NameKind.cell) else (n, k)).lookup x = some .cell ∨
    (names.map fun (n, k) => if (k == NameKind.free && env.scope.kind == .function && env.kindOf n == some .cell) = true then (n, NameKind.cell) else (n, k)).lookup x = some .free
  | [], h => by simp at h
  | (n, k) :: r, h => by
    rw [List.map_cons]
    by_cases hx : x = n
    · subst hx
      have hk : k = .free := by simpa using h
      subst hk
      by_cases hcond : (NameKind.free == NameKind.free && env.scope.kind == .function && env.kindOf x == some .cell) = true
      · exact .inl (by simp only [hcond, if_true]; simp)
      · exact .inr (by simp only [hcond]; simp)
    · have hb : (x == n) = false := by simpa using hx
      have h' : r.lookup x = some .free := by rw [List.lookup_cons, hb] at h; exact h
      have ih := relabel_free (env := env) h'
      by_cases hcond : (k == NameKind.free && env.scope.kind == .function && env.kindOf n == some .cell) = true
      · simp only [hcond, if_true]; rw [List.lookup_cons, hb]; exact ih
      · simp only [hcond]; simp only [Bool.false_eq_true, if_false]; rw [List.lookup_cons, hb]; exact ih
theorem Caps.mem {cs : List Str} {idx : List Nat} (hc : Caps X scope cs idx) {x : Str} (h : x ∈ cs) : scope.names.lookup x = some .free ∧ (X.env.kindOf x = some .cell ∨ X.env.kindOf x = some .free) := by
  obtain ⟨k, hk, rfl⟩ := List.mem_iff_getElem.mp h
  obtain ⟨i, _, h2, h3, _⟩ := hc.get k _ (List.getElem?_eq_getElem hk)
  exact ⟨h2, h3⟩
theorem comp_ok {N' : List Str} {C : Addr} {pins : List (Addr × Obj)} {σ : St} {H : Hp} {s : Shared} {fp : List Addr} (I : Inv X pins σ H s) (hs : CompScope scope cs) (hc : Caps X scope cs idx) (hC : s.heap.objs.size ≤ C)
    (hf : ∀ b ∈ fp, FpOk X pins H b) (hfp : ∀ b ∈ fp, b < s.heap.objs.size) (hcalm : X.calm = true) : (X.comp N' scope C s H fp pins).Ok where
  mod := I.ok.mod
  kind := hs.kind
  glob := I.ok.glob
  blt := I.ok.blt
  above := hC
  inj := fun x y c h1 h2 => by
    have h1' : (clOf scope X.env).lookup x = some c := h1
    have h2' : (clOf scope X.env).lookup y = some c := h2
    rw [clOf_lookup] at h1' h2'
    split at h1'
    · rename_i m1
      split at h2'
      · rename_i m2
        obtain ⟨c1, e1⟩ := I.ok.has x (hc.mem (hs.frees _ m1 rfl)).2
        obtain ⟨c2, e2⟩ := I.ok.has y (hc.mem (hs.frees _ m2 rfl)).2
        rw [e1] at h1'; rw [e2] at h2'
        have z1 : c1 = c := by simpa using h1'
        have z2 : c2 = c := by simpa using h2'
        subst z1 z2
        exact I.ok.inj x y _ e1 e2
      · cases h2'
    · cases h1'
  has := fun x h => by
    have m : (x, NameKind.free) ∈ scope.names := free_of_relabel hs.cell h
    refine ⟨(X.env.cells.lookup x).getD 0, ?_⟩
    show (clOf scope X.env).lookup x = _
    rw [clOf_lookup, if_pos m]
  cab := fun x c h => by
    have h' : false = true := h
    cases h'
  hd := fun h => I.ok.hd hcalm
  frames := I.ok.frames
  stk := .inl rfl
  exf := fun b hb => by
    obtain ⟨f0, f1, f2, f3, f4, f5⟩ := hf b hb
    refine ⟨Nat.ne_of_lt (Nat.lt_of_lt_of_le (hfp b hb) hC), fun x c e => ?_⟩
    have e' : (clOf scope X.env).lookup x = some c := e
    rw [clOf_lookup] at e'
    split at e'
    · rename_i m
      obtain ⟨c1, e1⟩ := I.ok.has x (hc.mem (hs.frees _ m rfl)).2
      rw [e1] at e'
      have z : c1 = c := by simpa using e'
      subst z
      exact f4 x _ e1
    · cases e'
  bs := I.bs
  bsz := Nat.le_trans I.ok.bsz I.sz
  noex := fun b o e hb => by
    obtain ⟨f0, f1, f2, f3, f4, f5⟩ := hf b hb
    rcases f3 with z | z
    · exact I.ok.noex b o e z
    · exact absurd (Nat.lt_of_lt_of_le (Heap.lt_size (I.ok.bs b o e).1) z) (Nat.lt_irrefl _)
  exfs := fun b hb z => by
    obtain ⟨f0, f1, f2, f3, f4, f5⟩ := hf b hb
    rcases List.mem_cons.mp (I.stkSub b z) with e | e
    · exact f1 e
    · exact f2 e
  funs := I.stack
  frf := I.stkFree
theorem cell_of {pins : List (Addr × Obj)} {σ : St} {H : Hp} {s : Shared} (I : Inv X pins σ H s) (hs : CompScope scope cs) (hc : Caps X scope cs idx) {x : Str} {c : Addr} (e : (clOf scope X.env).lookup x = some c) : X.env.cells.lookup x = some c := by
  rw [clOf_lookup] at e
  split at e
  · rename_i m
    obtain ⟨c1, e1⟩ := I.ok.has x (hc.mem (hs.frees _ m rfl)).2
    rw [e1] at e
    have z : c1 = c := by simpa using e
    subst z
    exact e1
  · cases e
theorem comp_start {ts : List Str} {C : Addr} {pins : List (Addr × Obj)} {σ : St} {H : Hp} {s : Shared} {h' : Heap} {tk : Nat} {fp : List Addr} {m : Str → Option Value} (I : Inv X pins σ H s) (hs : CompScope scope cs) (hc : Caps X scope cs idx) (hC : s.heap.objs.size ≤ C)
    (hf : ∀ b ∈ fp, FpOk X pins H b) (hfp : ∀ b ∈ fp, b < s.heap.objs.size) (hcalm : X.calm = true) (hk : ∀ b o, s.heap.get? b = some o → h'.get? b = some o) (hns : h'.Ns C m) :
    Inv (X.comp (ts ++ cs) scope C s H fp pins) [] (compSt ts.length idx σ) H { s with heap := h', toks := tk } where
  ok := comp_ok I hs hc hC hf hfp hcalm
  os := rfl
  bare := I.bare
  base := Un.kept hk
  loc := by
    refine ⟨m, hns, fun i x v e1 e2 e3 => ?_⟩
    have e1' : (ts ++ cs)[i]? = some x := e1
    unfold compSt at e2
    by_cases hi : i < ts.length
    · rw [List.getElem?_append_left (by simpa using hi)] at e2
      rw [List.getElem?_replicate] at e2
      rw [if_pos hi] at e2
      cases e2
    · rw [List.getElem?_append_right (by omega)] at e1'
      rw [List.getElem?_append_right (by simpa using hi)] at e2
      simp only [List.length_replicate] at e2
      obtain ⟨j, hj, hfr, hkind, hN⟩ := hc.get _ x e1'
      rw [List.getElem?_map, hj] at e2
      have e2' : (σ[j]?).getD none = some v := by simpa using e2
      have e2'' : σ[j]? = some (some v) := by
        cases q : σ[j]? with
        | none => rw [q] at e2'; cases e2'
        | some z => rw [q] at e2'; simpa using e2'
      obtain ⟨mX, hnX, hl⟩ := I.loc
      have hvis : Vis X.env.scope x := by
        rcases hkind with z | z
        · exact .inr (.inl z)
        · exact .inr (.inr z)
      obtain ⟨u, r, lk⟩ := hl j x v hN e2'' hvis
      refine ⟨u, r, .inr ⟨relabel_free hfr, ?_⟩⟩
      rcases lk with ⟨z, _⟩ | ⟨_, c, ec, hcell⟩
      · rcases hkind with q | q <;> (rw [z] at q; cases q)
      · refine ⟨c, ?_, ?_⟩
        · show (clOf scope X.env).lookup x = some c
          have hm : (x, NameKind.free) ∈ scope.names := by
            have : (relabel scope X.env).names.lookup x = some .cell ∨ (relabel scope X.env).names.lookup x = some .free := relabel_free hfr
            exact free_of_relabel hs.cell this
          rw [clOf_lookup, if_pos hm, ec]
          rfl
        · obtain ⟨o, ho, hd⟩ := hcell
          exact ⟨o, hk _ _ ho, hd⟩
  cell := fun x c e => by
    obtain ⟨v, o, ho, hd⟩ := I.cell x c (cell_of I hs hc e)
    exact ⟨v, o, hk _ _ ho, hd⟩
  free := I.hok.fresh hC
  freeC := fun x c e => I.freeC x c (cell_of I hs hc e)
  pin := fun p hp => by
    have hp' : p ∈ X.pn ++ pins := by simpa [Cx.comp] using hp
    obtain ⟨e, n, ne, nf, d⟩ := I.pin p hp'
    refine ⟨hk _ _ e, n, Nat.ne_of_lt (Nat.lt_of_lt_of_le (Heap.lt_size e) hC), fun z => ?_, d⟩
    rcases List.mem_cons.mp (I.stkSub p.1 z) with q | q
    · exact ne q
    · exact nf q
  hok := I.hok.kept hk
  len := by
    show (compSt ts.length idx σ).length = (ts ++ cs).length
    unfold compSt
    rw [List.length_append, List.length_append, List.length_replicate, List.length_map, hc.length]
end
section
variable {Y : Cx} {scope : Scope} {elt tg iter : Expr} {ifs : List Expr} {pos : Pos} {g : TG} {ti : TT} {te : TE}
theorem comp_loop {J : It} {fp : List Addr} {it : Addr} {tn : Nat → Heap → Prop} (T : Turn Y.prog Y.w Y.K tg J fp it tn) (hcalm : Y.calm = true) (hxe : Y.xe = fun _ _ => False) {nt : Nat} (hgk : GKeep g nt) (hgY : PG Y tg g) (htY : PF Y ifs ti) (heY : PE Y elt te)
    {acc : Addr} {σ0 : St} (hσ : ∀ (j : Nat) v, σ0[j]? = some (some v) → nt ≤ j) (ha1 : Y.s₀.heap.objs.size ≤ acc) (haL : acc ≠ Y.env.locals) (haC : ∀ x c, Y.env.cells.lookup x = some c → c ≠ acc) (haP : ∀ p ∈ Y.pn, p.1 ≠ acc) (haF : acc ∉ Y.fs) (hafp : acc ∉ fp)
    (hstat : ∀ b ∈ fp, b ≠ Y.env.locals ∧ b ∉ Y.fs ∧ (b ∈ Y.ex ∨ Y.s₀.heap.objs.size ≤ b) ∧ (∀ x c, Y.env.cells.lookup x = some c → c ≠ b) ∧ ∀ p ∈ Y.pn, p.1 ≠ b)
    {W : Nat → Nat → List V → Hp → Prop} {QD : List V → Hp → Prop}
    (turn : ∀ i m ys H, W i m ys H → (J.stop i H ∧ QD ys H) ∨ (J.go i H ∧ ∀ x H', J.yld i H x H' → g x σ0 H' fun σ2 H2 => ti σ2 H2 fun b H3 =>
      if b = true then te σ2 H3 fun y H4 => ys.length < sizeLine ∧ ∃ m', m' < m ∧ W (i + 1) m' (ys ++ [y]) H4 else ∃ m', m' < m ∧ W (i + 1) m' ys H3))
    {R : Result → Shared → Prop} (hR : ∀ s ys H its n, Inv Y [(acc, accObj its n)] σ0 H s → Vals ys its → ys.length ≤ sizeLine → QD ys H → R (.ok .next) s)
    {m : Nat} {s : Shared} {ys : List V} {H : Hp} {its : List Value} {n i : Nat} (I : Inv Y [(acc, accObj its n)] σ0 H s) (st : tn i s.heap) (fr : ∀ b ∈ fp, H b = none) (vl : Vals ys its) (hl : ys.length ≤ sizeLine) (w0 : W i m ys H) :
    codeAny (model Y.prog Y.w) Y.A (.compLoop (.ListComp elt [⟨tg, iter, ifs, 0⟩] scope pos) 0 (.ref it) (.ref acc) Y.env) R s := by
  refine codeAny_loop rfl (fun m s => ∃ i ys H its n, Inv Y [(acc, accObj its n)] σ0 H s ∧ tn i s.heap ∧ (∀ b ∈ fp, H b = none) ∧ Vals ys its ∧ ys.length ≤ sizeLine ∧ W i m ys H) ?_ m ⟨i, ys, H, its, n, I, st, fr, vl, hl, w0⟩
  clear I st fr vl hl w0
  rintro m s ⟨i, ys, H, its, n, I, st, fr, vl, hl, w⟩
  show wpAny _ Y.A ((compTurn (.ListComp elt [⟨tg, iter, ifs, 0⟩] scope pos) 0 (.ref it) (.ref acc) Y.env).onRaise (fun x => do noteFrame x Y.env; theTreesLotGoes x)) _ _ s
  refine wpAny_noted ?_
  rw [compTurn_list]
  refine wpAny_bind (wpAny_standAt (wpAny_bind ?_))
  have xf : ∀ {E' : Value → Shared → Prop} (e : Value) (s' : Shared), Y.xe e s' → E' e s' := fun e s' h => by rw [hxe] at h; exact h.elim
  have fpok : ∀ {H' : Hp}, (∀ b ∈ fp, H' b = none) → ∀ b ∈ fp, FpOk Y [(acc, accObj its n)] H' b := fun hn b hb => by
    obtain ⟨h1, h2, h3, h4, h5⟩ := hstat b hb
    refine ⟨hn b hb, h1, h2, h3, h4, fun p hp => ?_⟩
    rcases List.mem_append.mp hp with z | z
    · exact h5 p z
    · rw [List.mem_singleton.mp z]
      exact fun q => hafp (by have q' : acc = b := q; rw [q']; exact hb)
  rcases turn i m ys H w with ⟨stop, qd⟩ | ⟨go, step⟩
  · refine wpAny_mono (T.done Y rfl rfl rfl hcalm i _ s σ0 H (fun _ _ => False) I (fpok fr) st stop) (fun r s1 h1 => ?_) (fun _ _ f => f.elim)
    obtain ⟨hr, I1⟩ := h1
    subst hr
    exact wpAny_pure (hR s1 ys H its n I1 vl hl qd)
  · refine wpAny_mono (T.item Y rfl rfl rfl hcalm i _ s σ0 H (fun _ _ => False) I (fpok fr) st go) (fun r s1 h1 => ?_) (fun _ _ f => f.elim)
    obtain ⟨u, hr, h1⟩ := h1
    subst hr
    dsimp only
    refine wpAny_bind (wpAny_mono h1 (fun _ s2 h2 => ?_) (fun _ _ f => f.elim))
    obtain ⟨x, H2, I2, r2, y2, st2, fr2⟩ := h2
    have I2' := I2.pinned (fpok fr2) (T.obj _ _ st2)
    refine wpAny_bind (wpAny_mono (hgY _ s2 σ0 H2 x u _ I2' r2 (hgk _ _ _ _ (step x H2 y2))) (fun _ s3 h3 => ?_) xf)
    obtain ⟨σ3, H3, I3, q3, l3, k3⟩ := h3
    refine wpAny_bind (wpAny_mono (htY _ s3 σ3 H3 _ I3 q3) (fun ok s4 h4 => ?_) xf)
    obtain ⟨H4, I4, q4⟩ := h4
    have wk : ∀ (j : Nat) v, σ0[j]? = some (some v) → σ3[j]? = some (some v) := fun j v e => (k3 j (hσ j v e)).trans e
    have fpin : ∀ {H' : Hp} {s' : Shared} {pl : List (Addr × Obj)}, Inv Y (pl ++ pinsAt fp s2.heap) σ3 H' s' → ∀ b ∈ fp, ∀ o, s2.heap.get? b = some o → s'.heap.get? b = some o ∧ H' b = none := fun {H' s' pl} I' b hb o e => by
      have := I'.pin (b, o) (List.mem_append_right _ (List.mem_append_right _ (mem_pinsAt hb e)))
      exact ⟨this.1, this.2.1⟩
    have fnone : ∀ {H' : Hp} {s' : Shared} {pl : List (Addr × Obj)}, Inv Y (pl ++ pinsAt fp s2.heap) σ3 H' s' → ∀ b ∈ fp, H' b = none := fun {H' s' pl} I' b hb => by
      obtain ⟨o, e, _⟩ := T.obj _ _ st2 b hb
      exact (fpin I' b hb o e).2
    cases ok with
    | false =>
      have q4' : ∃ m', m' < m ∧ W (i + 1) m' ys H4 := by simpa using q4
      obtain ⟨m', hm, w'⟩ := q4'
      exact wpAny_pure ⟨rfl, m', hm, i + 1, ys, H4, its, n, I4.unpinned.weak l3.symm wk, T.keep _ _ _ st2 fun b hb o e => (fpin I4 b hb o e).1, fnone I4, vl, hl, w'⟩
    | true =>
      have q4' : te σ3 H4 fun y H4 => ys.length < sizeLine ∧ ∃ m', m' < m ∧ W (i + 1) m' (ys ++ [y]) H4 := by simpa using q4
      refine wpAny_bind (wpAny_bind (wpAny_mono (heY _ s4 σ3 H4 _ I4 q4') (fun u5 s5 h5 => ?_) xf))
      obtain ⟨y, H5, I5, r5, hlt, m', hm, w'⟩ := h5
      obtain ⟨ea, na, neL, nf, nd⟩ := I5.pin (acc, accObj its n) (List.mem_append_right _ (List.mem_append_left _ (List.mem_singleton.mpr rfl)))
      have hsz : its.toArray.size ≤ sizeLine := by rw [List.size_toArray, ← vl.length]; exact hl
      refine wpAny_bind (wpAny_list_append_plain (items := its.toArray) ⟨n, ea⟩ (fun h' pl' sb => ?_) hsz)
      obtain ⟨n', en⟩ := pl'
      have en' : h'.get? acc = some (accObj (its ++ [u5]) n') := by
        have : (its ++ [u5]).toArray = its.toArray.push u5 := by simp
        show h'.get? acc = some { cls := .type "list", dict := none, data := .seq (its ++ [u5]).toArray n', slots := #[] }
        rw [this]; exact en
      have I5a : Inv Y (pinsAt fp s2.heap) σ3 H5 s5 := I5.pins_of fun p hp => I5.pin p (List.mem_append_right _ (List.mem_append_right _ hp))
      have I6 : Inv Y (pinsAt fp s2.heap) σ3 H5 { s5 with heap := h' } := I5a.turned (t' := s5.toks) (it := acc) (fun b o hb e => (sb.2 b hb).trans e) na haL (.inr ha1) haC fun p hp => by
        rcases List.mem_append.mp hp with z | z
        · exact haP p z
        · exact fun q => hafp (q ▸ (of_pinsAt z).1)
      have I7 : Inv Y [(acc, accObj (its ++ [u5]) n')] σ0 H5 { s5 with heap := h' } := (I6.pins_of fun p hp => by
        rw [List.mem_singleton.mp hp]
        exact ⟨en', na, haL, haF, fun v z => by cases z⟩).weak l3.symm wk
      refine wpAny_pure (wpAny_pure ⟨rfl, m', hm, i + 1, ys ++ [y], H5, its ++ [u5], n', I7, T.keep _ _ _ st2 fun b hb o e => ?_, fnone I5, vl.append (.cons r5 .nil), ?_, w'⟩)
      · exact (sb.2 b (fun q => hafp (q ▸ hb))).trans (fpin I5 b hb o e).1
      · rw [List.length_append, List.length_singleton]; omega
end
section
variable {X : Cx} {scope : Scope} {elt tg iter : Expr} {ifs : List Expr} {pos : Pos} {wi : TI} {g : TG} {ti : TT} {te : TE}
theorem pe_comp (ts cs : List Str) (idx : List Nat) (hcalm : X.calm = true) (hc : Caps X scope cs idx) (hs : CompScope scope cs) (hi : PI X tg iter wi) (hgk : GKeep g ts.length)
    (hg : ∀ C s₀ H₀ fp pn, PG (X.comp (ts ++ cs) scope C s₀ H₀ fp pn) tg g) (ht : ∀ C s₀ H₀ fp pn, PF (X.comp (ts ++ cs) scope C s₀ H₀ fp pn) ifs ti)
    (he : ∀ C s₀ H₀ fp pn, PE (X.comp (ts ++ cs) scope C s₀ H₀ fp pn) elt te) (hfs : ∀ x, foldedSetIterable iter X.env x = pure x := by intro _; rfl) :
    PE X (.ListComp elt [⟨tg, iter, ifs, 0⟩] scope pos) (tComp wi g ti te ts.length idx) := by
  intro pins s σ H Q I h
  rw [eval_ListComp]
  have hclos : closureFor scope X.env = pure (clOf scope X.env) := clos_eq fun p hp hf => I.ok.has p.1 (hc.mem (hs.frees p hp hf)).2
  refine wpAny_comprehension_free (use := none) rfl hfs hclos hs.kind hs.names (thn (hi pins s σ H _ I h) fun xv s1 h1 => thn h1 fun itv s2 h2 => ?_)
  obtain ⟨it, fp, tn, J, H2, e, I2, T, st2, f2, W, ⟨m0, w0⟩, turn⟩ := h2
  subst e
  have hfp : ∀ b ∈ fp, b < s2.heap.objs.size := fun b hb => by obtain ⟨o, ho, _⟩ := T.obj _ _ st2 b hb; exact Heap.lt_size ho
  refine wpAny_newObj_type (wpAny_newFunctionEnv hs.cell (by intro y hy; simp at hy) (fun h₁ hns₁ hsb₁ => ?_) hs.kind)
  dsimp only at hns₁ hsb₁ ⊢
  generalize hH2 : s2.heap.push { cls := .type "list", dict := none, data := .seq ([] : List Value).toArray } = HP at hns₁ hsb₁ ⊢
  have hCsz : HP.objs.size = s2.heap.objs.size + 1 := by rw [← hH2, Heap.size_push]
  have hCle : s2.heap.objs.size ≤ HP.objs.size := by rw [hCsz]; exact Nat.le_succ _
  have haC : s2.heap.objs.size ≠ HP.objs.size := by rw [hCsz]; exact Nat.ne_of_lt (Nat.lt_succ_self _)
  have old : ∀ b o, s2.heap.get? b = some o → h₁.get? b = some o := fun b o e => hsb₁.extBut b o (by rw [hCsz]; exact Nat.ne_of_lt (Nat.lt_succ_of_lt (Heap.lt_size e))) (Heap.get?_push_of_some _ (hH2 ▸ Heap.get?_push_of_some _ e))
  have hacc : h₁.get? s2.heap.objs.size = some (accObj [] 0) := hsb₁.extBut _ _ haC (Heap.get?_push_of_some _ (hH2 ▸ Heap.get?_push_size _ rfl))
  generalize hCC : HP.objs.size = C at hns₁ hCle haC ⊢
  have IY : ∀ tk, Inv (X.comp (ts ++ cs) scope C s2 H2 fp pins) [] (compSt ts.length idx σ) H2 { s2 with heap := h₁, toks := tk } := fun tk => comp_start (ts := ts) I2 hs hc hCle f2 hfp hcalm old hns₁
  have cellsAlive : ∀ x c, (clOf scope X.env).lookup x = some c → c < s2.heap.objs.size := fun x c e => by
    obtain ⟨v, o, ho, _⟩ := I2.cell x c (cell_of I2 hs hc e)
    exact Heap.lt_size ho
  have pinsAlive : ∀ p ∈ X.pn ++ pins, p.1 < s2.heap.objs.size := fun p hp => Heap.lt_size (I2.pin p hp).1
  have accF : s2.heap.objs.size ∉ frs X.stack := fun z => by
    rcases List.mem_cons.mp (I2.stkSub _ z) with q | q
    · exact absurd I2.lt (by rw [← q]; exact Nat.lt_irrefl _)
    · exact I2.nofs (Nat.le_refl _) q
  have naccH : H2 s2.heap.objs.size = none := I2.hok.fresh (Nat.le_refl _)
  have loop : ∀ tk, codeAny (model X.prog X.w) X.A (.compLoop (.ListComp elt [⟨tg, iter, ifs, 0⟩] scope pos) 0 (.ref it) (.ref s2.heap.objs.size) (compEnvC scope (clOf scope X.env) C X.env))
      (compPost (model X.prog X.w) X.A X.xe none (EP X pins σ Q) (.ref s2.heap.objs.size) C) { s2 with heap := h₁, toks := tk } := fun tk => by
    have IYp : Inv (X.comp (ts ++ cs) scope C s2 H2 fp pins) [(s2.heap.objs.size, accObj [] 0)] (compSt ts.length idx σ) H2 { s2 with heap := h₁, toks := tk } := (IY tk).pins_of fun p hp => by
      rw [List.mem_singleton.mp hp]
      exact ⟨hacc, naccH, haC, accF, fun v z => by cases z⟩
    refine comp_loop (Y := X.comp (ts ++ cs) scope C s2 H2 fp pins) (QD := fun ys H => ∀ p, H p = none → Q (.ref p) (upd H p (.lst ys))) T hcalm rfl hgk (hg C s2 H2 fp pins) (ht C s2 H2 fp pins) (he C s2 H2 fp pins) (fun j v e => ?_) (Nat.le_refl _) haC (fun x c e => Nat.ne_of_lt (cellsAlive x c e))
      (fun p hp => Nat.ne_of_lt (pinsAlive p hp)) accF (fun z => Nat.lt_irrefl _ (hfp _ z)) (fun b hb => ?_) turn (fun s' ys H' its n I' vl hl qd => ?_) IYp (T.keep _ _ _ st2 fun b hb o e => old b o e) (fun b hb => (f2 b hb).1) .nil (Nat.zero_le _) w0
    · unfold compSt at e
      by_cases hj : j < ts.length
      · rw [List.getElem?_append_left (by simpa using hj), List.getElem?_replicate, if_pos hj] at e
        cases e
      · omega
    · obtain ⟨f0, f1, f3, f4, f5, f6⟩ := f2 b hb
      refine ⟨Nat.ne_of_lt (Nat.lt_of_lt_of_le (hfp b hb) hCle), fun z => ?_, .inl hb, fun x c e => f5 x c (cell_of I2 hs hc e), f6⟩
      rcases List.mem_cons.mp (I2.stkSub b z) with q | q
      · exact f1 q
      · exact f3 q
    · obtain ⟨mC, hnC, _⟩ := I'.loc
      refine ⟨mC, hnC, fun h'' sbC => ?_⟩
      obtain ⟨ea, na, _, _, _⟩ := I'.pin (s2.heap.objs.size, accObj its n) (List.mem_append_right _ (List.mem_singleton.mpr rfl))
      have ea'' : h''.get? s2.heap.objs.size = some (accObj its n) := (sbC.2 _ haC).trans ea
      have hb : ∀ b, b < s2.heap.objs.size → b ≠ C := fun b hb => Nat.ne_of_lt (Nat.lt_of_lt_of_le hb hCle)
      have base : Un (frs X.stack) fp H2 H' s2.heap s'.heap := I'.base
      have un : Un (frs X.stack) fp H2 (upd H' s2.heap.objs.size (.lst ys)) s2.heap h'' :=
        ⟨fun b o e nn h1 h2 => (sbC.2 b (hb b (Heap.lt_size e))).trans (base.keep b o e nn h1 h2),
         fun b o e nn h1 h2 => by obtain ⟨sl, q⟩ := base.slot b o e nn h1 h2; exact ⟨sl, (sbC.2 b (hb b (Heap.lt_size e))).trans q⟩,
         fun b o e nn h2 => by rw [upd_ne (Nat.ne_of_lt (Heap.lt_size e))]; exact base.free b o e nn h2,
         fun b o e h2 => by obtain ⟨o', q⟩ := base.there b o e h2; exact ⟨o', (sbC.2 b (hb b (Heap.lt_size e))).trans q⟩,
         fun b xs e => by have q := base.tups b xs e; rw [upd_ne (ne_of_none q na)]; exact q,
         fun b o u e => by have q := base.frzs b o u e; rw [upd_ne (ne_of_none q na)]; exact q,
         fun b ps e => by obtain ⟨mo, q⟩ := base.tbls b ps e; exact ⟨mo, by rw [upd_ne (ne_of_none q na)]; exact q⟩⟩
      have CnH : H' C = none := I'.free
      have hok0 : HOk X.prog X.w H' h'' := fun b u e => (I'.hok b u e).stay (fun c v hcv q => (sbC.2 c (by
        rcases hcv with z | z
        · rw [z]; exact ne_of_none e CnH
        · exact ne_of_none z CnH)).trans q) (fun _ q => q) fun _ _ q => q
      have hok : HOk X.prog X.w (upd H' s2.heap.objs.size (.lst ys)) h'' := HOk.track hok0 na ⟨hl, its, n, vl, ea''⟩
      exact ⟨.ref s2.heap.objs.size, upd H' s2.heap.objs.size (.lst ys), I2.call' (s' := { s' with heap := h'' }) I'.os un hok I'.bare (fun b hb' => by
        obtain ⟨f0, f1, f3, f4, f5, f6⟩ := f2 b hb'
        exact ⟨f4, f1, f5, f6⟩), rfl, qd _ na⟩
  exact codeAny_compStart_list (loop _) (T.self X.A 0 _ _ _ (T.keep _ _ _ st2 fun b hb o e => old b o e) (loop _))
end
end L2
set_option linter.all false
namespace TC
open PySem
def Rise (xs : Array Nat) : Prop := xs.toList.Pairwise (· < ·)
theorem rise_lt {xs : Array Nat} (h : Rise xs) {i k : Nat} (hik : i < k) (hk : k < xs.size) : xs.getD i 0 < xs.getD k 0 := by
  have hi : i < xs.size := Nat.lt_trans hik hk
  have h' := List.pairwise_iff_getElem.mp h i k (by simpa using hi) (by simpa using hk) hik
  simpa [Array.getD, hi, hk] using h'
theorem below_go (xs : Array Nat) (j : Nat) (hr : Rise xs) : ∀ (fuel lo hi : Nat), hi ≤ xs.size → lo ≤ hi → hi - lo ≤ fuel →
    (∀ i, i < lo → xs.getD i 0 < j) → (∀ i, hi ≤ i → i < xs.size → j ≤ xs.getD i 0) →
    let r := SetTable.below.go xs j fuel lo hi
    r ≤ xs.size ∧ (∀ i, i < r → xs.getD i 0 < j) ∧ (∀ i, r ≤ i → i < xs.size → j ≤ xs.getD i 0) := by
  intro fuel
  induction fuel with
  | zero =>
    intro lo hi h1 h2 h3 h4 h5
    have e : lo = hi := by omega
    subst e
    exact ⟨h1, h4, h5⟩
  | succ fuel ih =>
    intro lo hi h1 h2 h3 h4 h5
    unfold SetTable.below.go
    by_cases hlt : lo < hi
    · rw [if_pos hlt]
      dsimp only
      have hm1 : lo ≤ (lo + hi) / 2 := by omega
      have hm2 : (lo + hi) / 2 < hi := by omega
      have hms : (lo + hi) / 2 < xs.size := by omega
      have hg : xs.getD ((lo + hi) / 2) j = xs.getD ((lo + hi) / 2) 0 := by simp [Array.getD, hms]
      rw [hg]
      by_cases hc : xs.getD ((lo + hi) / 2) 0 < j
      · rw [if_pos hc]
        refine ih _ _ h1 (by omega) (by omega) (fun i hi' => ?_) h5
        by_cases e : i = (lo + hi) / 2
        · subst e; exact hc
        · exact Nat.lt_trans (rise_lt hr (show i < (lo + hi) / 2 by omega) hms) hc
      · rw [if_neg hc]
        refine ih _ _ (by omega) hm1 (by omega) h4 (fun i hi' hs => ?_)
        by_cases e : i = (lo + hi) / 2
        · subst e; omega
        · have := rise_lt hr (show (lo + hi) / 2 < i by omega) hs
          omega
    · rw [if_neg hlt]
      have e : lo = hi := by omega
      subst e
      exact ⟨h1, h4, h5⟩
theorem below_spec (xs : Array Nat) (j : Nat) (hr : Rise xs) :
    SetTable.below xs j ≤ xs.size ∧ (∀ i, i < SetTable.below xs j → xs.getD i 0 < j) ∧ (∀ i, SetTable.below xs j ≤ i → i < xs.size → j ≤ xs.getD i 0) :=
  below_go xs j hr xs.size 0 xs.size (Nat.le_refl _) (Nat.zero_le _) (by omega) (fun i h => absurd h (Nat.not_lt_zero _)) (fun i h1 h2 => by omega)
theorem below_next (xs : Array Nat) (i : Nat) (hr : Rise xs) (hi : i < xs.size) : SetTable.below xs (xs.getD i 0 + 1) = i + 1 := by
  obtain ⟨h1, h2, h3⟩ := below_spec xs (xs.getD i 0 + 1) hr
  rcases Nat.lt_trichotomy (SetTable.below xs (xs.getD i 0 + 1)) (i + 1) with h | h | h
  · have := h3 i (by omega) hi; omega
  · exact h
  · have := h2 (i + 1) h
    have := rise_lt hr (show i < i + 1 by omega) (show i + 1 < xs.size by omega)
    omega
theorem below_zero (xs : Array Nat) (hr : Rise xs) : SetTable.below xs 0 = 0 := by
  obtain ⟨h1, h2, h3⟩ := below_spec xs 0 hr
  rcases Nat.eq_zero_or_pos (SetTable.below xs 0) with h | h
  · exact h
  · exact absurd (h2 0 h) (Nat.not_lt_zero _)
theorem insert_rise (xs : Array Nat) (j : Nat) (hr : Rise xs) (hn : (xs[SetTable.below xs j]? == some j) = false) : Rise (SetTable.insertAt xs (SetTable.below xs j) j) := by
  obtain ⟨h1, h2, h3⟩ := below_spec xs j hr
  unfold Rise
  rw [SetTable.toList_insertAt]
  have hp := hr
  unfold Rise at hp
  have e : xs.toList = xs.toList.take (SetTable.below xs j) ++ xs.toList.drop (SetTable.below xs j) := (List.take_append_drop _ _).symm
  rw [e] at hp
  rw [List.pairwise_append] at hp
  obtain ⟨p1, p2, p3⟩ := hp
  have lo : ∀ a ∈ xs.toList.take (SetTable.below xs j), a < j := by
    intro a ha
    obtain ⟨i, hi, rfl⟩ := List.mem_iff_getElem.mp ha
    have hi' : i < SetTable.below xs j ∧ i < xs.size := by
      rw [List.length_take] at hi
      simp at hi
      omega
    have := h2 i hi'.1
    simpa [Array.getD, hi'.2] using this
  have hi_ : ∀ a ∈ xs.toList.drop (SetTable.below xs j), j < a := by
    intro a ha
    obtain ⟨i, hi, rfl⟩ := List.mem_iff_getElem.mp ha
    have hi' : SetTable.below xs j + i < xs.size := by
      rw [List.length_drop] at hi
      simp at hi
      omega
    have hb : SetTable.below xs j < xs.size := by omega
    have h0 : j < xs.getD (SetTable.below xs j) 0 := by
      have a1 := h3 _ (Nat.le_refl _) hb
      have a2 : xs.getD (SetTable.below xs j) 0 ≠ j := by
        intro z
        have : (xs[SetTable.below xs j]? == some j) = true := by
          have z' : xs[SetTable.below xs j] = j := by simpa [Array.getD, hb] using z
          simp [hb, z']
        rw [this] at hn; cases hn
      omega
    have h4 : xs.getD (SetTable.below xs j) 0 ≤ xs.getD (SetTable.below xs j + i) 0 := by
      rcases Nat.eq_zero_or_pos i with z | z
      · subst z; exact Nat.le_refl _
      · exact Nat.le_of_lt (rise_lt hr (by omega) hi')
    have : j < xs.getD (SetTable.below xs j + i) 0 := by omega
    simpa [Array.getD, hi', List.getElem_drop] using this
  rw [List.pairwise_append, List.pairwise_cons]
  refine ⟨p1, ⟨hi_, p2⟩, fun a ha b hb => ?_⟩
  rcases List.mem_cons.mp hb with rfl | hb
  · exact lo a ha
  · exact Nat.lt_trans (lo a ha) (hi_ b hb)
structure TOk (led : Bool) (t : SetTable) : Prop where
  rise : Rise t.place
  nodum : t.dummies = #[]
  ld : t.led = led
theorem range_rise (n : Nat) : Rise (Array.range n) := by
  unfold Rise
  rw [Array.toList_range]
  exact List.pairwise_lt_range
theorem standIn_ok {led : Bool} {t : SetTable} (h : TOk led t) (n : Nat) : TOk led (t.standIn n) := ⟨range_rise n, rfl, h.ld⟩
theorem has_empty (j : Nat) : SetTable.has #[] j = false := by simp [SetTable.has]
theorem probe_empty {t : SetTable} (hd : t.dummies = #[]) {f : Nat → Int} {h : Int} : ∀ (fuel : Nat) (p : SetTable.Probe) (j : Nat) (d : Option Nat), p.dummy = none →
    SetTable.probe.go t f h fuel p = some (.empty j d) → t.slot j = .empty ∧ d = none := by
  intro fuel
  induction fuel with
  | zero => intro p j d _ e; simp [SetTable.probe.go] at e
  | succ fuel ih =>
    intro p j d hp e
    unfold SetTable.probe.go at e
    have adv : ∀ q : SetTable.Probe, (t.advance q).dummy = q.dummy := by
      intro q; unfold SetTable.advance; split <;> rfl
    cases hs : t.slot p.j with
    | empty =>
      rw [hs] at e
      simp only [Option.some.injEq, SetTable.Met.empty.injEq] at e
      exact ⟨by rw [← e.1]; exact hs, by rw [← e.2]; exact hp⟩
    | dummy =>
      exfalso
      unfold SetTable.slot at hs
      rw [hd, has_empty] at hs
      dsimp only at hs
      split at hs <;> simp at hs
    | live i =>
      rw [hs] at e
      dsimp only at e
      split at e
      · simp at e
      · exact ih _ j d (by rw [adv]; exact hp) e
theorem put_ok {led : Bool} {t : SetTable} (h : TOk led t) {j : Nat} (hs : t.slot j = .empty) : TOk led (t.put j).1 := by
  unfold SetTable.put
  dsimp only
  refine ⟨insert_rise t.place j h.rise ?_, ?_, h.ld⟩
  · cases q : (t.place[SetTable.below t.place j]? == some j) with
    | false => rfl
    | true =>
      unfold SetTable.slot at hs
      dsimp only at hs
      rw [q] at hs
      simp at hs
  · dsimp only
    rw [h.nodum, has_empty]
    rfl
theorem orStandIn_ok {led : Bool} {t : SetTable} (h : TOk led t) (n : Nat) : TOk led (t.orStandIn n) := by
  unfold SetTable.orStandIn
  split
  · exact h
  · exact standIn_ok h n
theorem layNew_ok {led : Bool} {t : SetTable} (h : TOk led t) (es : Array (Int × Value)) (k : Int) (x : Value) : TOk led (layNew t es k x).2.1 := by
  unfold layNew
  split
  · rename_i slot wasDummy e
    unfold SetTable.freeSlot SetTable.probe at e
    split at e
    · rename_i j d q
      obtain ⟨q1, q2⟩ := probe_empty h.nodum _ _ j d rfl q
      subst q2
      simp at e
      have := put_ok h (j := j) q1
      rw [← e.1]
      exact orStandIn_ok this _
    · cases e
  · exact standIn_ok h _
theorem laid_ok {mask finger moves : Nat} {led plain : Bool} {hs : Array Int} {t' : SetTable} {o : Array Nat} (e : SetTable.laid mask finger moves led plain hs = some (t', o)) : TOk led t' := by
  unfold SetTable.laid at e
  cases q : SetTable.layClean mask hs with
  | none => rw [q] at e; simp at e
  | some owner =>
    rw [q] at e
    simp at e
    rw [← e.1]
    refine ⟨?_, rfl, rfl⟩
    unfold Rise
    dsimp only
    have key : ∀ (l : List Nat), l.Pairwise (· < ·) → ((l.filterMap fun j => (owner.getD j none).map (j, ·)).map (·.1)).Pairwise (· < ·) := by
      intro l
      induction l with
      | nil => intro _; simp
      | cons a r ih =>
        intro hp
        rw [List.pairwise_cons] at hp
        cases w : owner.getD a none with
        | none => rw [List.filterMap_cons_none (by simp [w])]; exact ih hp.2
        | some b =>
          rw [List.filterMap_cons_some (b := (a, b)) (by simp [w]), List.map_cons, List.pairwise_cons]
          refine ⟨fun c hc => ?_, ih hp.2⟩
          obtain ⟨⟨c1, c2⟩, h1, rfl⟩ := List.mem_map.mp hc
          obtain ⟨d, hd, hde⟩ := List.mem_filterMap.mp h1
          cases w2 : owner.getD d none with
          | none => rw [w2] at hde; simp at hde
          | some b2 =>
            rw [w2] at hde
            simp at hde
            rw [← hde.1]
            exact hp.1 d hd
    have := key (List.range (mask + 1)) List.pairwise_lt_range
    simpa using this
theorem relayAll_ok {led : Bool} {t : SetTable} (h : TOk led t) (es : Array (Int × Value)) (k : Nat) : TOk led (relayAll t es k).2.1 := by
  unfold relayAll
  split
  · rename_i t' order e
    dsimp only
    split
    · unfold SetTable.relaid at e
      have := laid_ok e
      rw [h.ld] at this
      exact this
    · exact standIn_ok h _
  · exact standIn_ok h _
theorem erase_perm {α : Type} : ∀ (l : List α) (i : Nat) (x : α), l[i]? = some x → List.Perm l (x :: l.eraseIdx i)
  | [], _, _, h => by simp at h
  | a :: r, 0, x, h => by simp at h; subst h; simp
  | a :: r, i + 1, x, h => by
    have := erase_perm r i x (by simpa using h)
    simp only [List.eraseIdx_cons_succ]
    exact (List.Perm.cons a this).trans (List.Perm.swap x a _)
theorem pick_go {α : Type} (next : Nat → Nat) : ∀ (fuel k : Nat) (left : List α) (out : Array α), left.length = fuel → List.Perm (pickOrder.go next fuel k left out).toList (out.toList ++ left) := by
  intro fuel
  induction fuel with
  | zero =>
    intro k left out e
    have : left = [] := List.length_eq_zero_iff.mp e
    subst this
    simp [pickOrder.go]
  | succ fuel ih =>
    intro k left out e
    unfold pickOrder.go
    have hp : 0 < left.length := by omega
    have hlt : next k % left.length < left.length := Nat.mod_lt _ hp
    have hx : left[next k % left.length]? = some left[next k % left.length] := List.getElem?_eq_getElem hlt
    rw [hx]
    dsimp only
    refine (ih (k + 1) _ _ ?_).trans ?_
    · rw [List.length_eraseIdx, if_pos hlt]; omega
    · rw [Array.toList_push]
      have := erase_perm left _ _ hx
      rw [List.append_assoc]
      refine List.Perm.append_left _ ?_
      simpa using this.symm
theorem pickOrder_perm {α : Type} (next : Nat → Nat) (xs : Array α) : List.Perm (pickOrder next xs).toList xs.toList := by
  have := pick_go next xs.size 0 xs.toList #[] (by simp)
  simpa [pickOrder] using this
end TC
set_option linter.all false
namespace TC
open PySem
def valI : Int × Value → Int
  | (_, .int k _) => k
  | _ => 0
section
variable {prog : Program} {w : World} {A : Around} {E : Value → Shared → Prop} {s : Shared}
def SetIs (prog : Program) (w : World) (h : Heap) (a : Addr) (led : Bool) (ks : List Int) : Prop :=
  ∃ es ep t, h.get? a = some { cls := .type "set", dict := none, data := .set es ep t, slots := #[] } ∧ ElemsOf (intKind prog w) es.toList ∧ es.size < scanBound ∧
    t.fits es.size = true ∧ TOk led t ∧ es.toList.map valI = ks ∧ ks.Nodup
theorem SetIs.at {h h' : Heap} {a : Addr} {led : Bool} {ks : List Int} (x : SetIs prog w h a led ks) (e : ∀ o, h.get? a = some o → h'.get? a = some o) : SetIs prog w h' a led ks := by
  obtain ⟨es, ep, t, ho, r⟩ := x
  exact ⟨es, ep, t, e _ ho, r⟩
theorem elem_int {e : Int × Value} (h : ∃ k, (intKind prog w).is k e.2 = true ∧ e.1 = (intKind prog w).hash k) : ∃ t, e.2 = .int (valI e) t := by
  obtain ⟨k, hk, _⟩ := h
  obtain ⟨h1, v⟩ := e
  cases v <;> first | exact ⟨_, rfl⟩ | exact absurd hk Bool.false_ne_true
theorem is_int {e : Int × Value} (h : ∃ k, (intKind prog w).is k e.2 = true ∧ e.1 = (intKind prog w).hash k) (k : Int) : (intKind prog w).is k e.2 = decide (valI e = k) := by
  obtain ⟨t, ht⟩ := elem_int h
  rw [ht]
  show Value.isInt k (.int (valI e) t) = _
  rw [← Bool.beq_eq_decide_eq]; simp [Value.isInt]
theorem find_mem {es : List (Int × Value)} (h : ElemsOf (intKind prog w) es) (k : Int) : (es.findIdx? fun e => (intKind prog w).is k e.2).isSome = true ↔ k ∈ es.map valI := by
  rw [List.findIdx?_isSome, List.any_eq_true, List.mem_map]
  constructor
  · rintro ⟨e, he, hp⟩
    rw [is_int (h e he).1 k] at hp
    exact ⟨e, he, of_decide_eq_true hp⟩
  · rintro ⟨e, he, rfl⟩
    exact ⟨e, he, by rw [is_int (h e he).1]; exact decide_eq_true rfl⟩
theorem tail_is {g : Bool → Sem Unit} (hg : ∀ (b : Bool) (s₁ : Shared) (Q' : Unit → Shared → Prop), Q' () s₁ → wpAny (model prog w) A (g b) Q' E s₁)
    {a : Addr} {es : Array (Int × Value)} {ep : Nat} {t : SetTable} (ho : s.heap.get? a = some { cls := .type "set", dict := none, data := .set es ep t, slots := #[] })
    {led : Bool} {es1 : Array (Int × Value)} {t2 : SetTable} (hel1 : ElemsOf (intKind prog w) es1.toList) (hb1 : es1.size < scanBound) (hf2 : t2.fits es1.size = true) (ht2 : TOk led t2)
    (hnd : (es1.toList.map valI).Nodup) {wasDummy : Bool} {R : Option Bool → Shared → Prop}
    (h : ∀ h' ks', Heap.SameBut a s.heap h' → SetIs prog w h' a led ks' → ks'.Perm (es1.toList.map valI) → R (some true) { s with heap := h' }) :
    wpAny (model prog w) A (do
        storeSet a es1 t2
        if (!wasDummy && t2.tooFull) = true then do
            g (relayAll t2 es1 (SetTable.grown es1.size)).2.2
            storeSet a (relayAll t2 es1 (SetTable.grown es1.size)).1 (relayAll t2 es1 (SetTable.grown es1.size)).2.1
            pure (some true)
          else pure (some true)) R E s := by
  refine wpAny_bind (wpAny_storeSet_of ho rfl ?_ (fits_of_scanBound hb1))
  have put : ∀ {h : Heap} {es0 : Array (Int × Value)} {ep0 : Nat} {t0 : SetTable} (es' : Array (Int × Value)) (t' : SetTable), h.get? a = some { cls := .type "set", dict := none, data := .set es0 ep0 t0, slots := #[] } →
      (h.update a (Obj.putSet es' t')).get? a = some { cls := .type "set", dict := none, data := .set es' (ep0 + 1) t', slots := #[] } := fun es' t' e => by
    have q := Heap.get?_update_self (Obj.putSet es' t') e (by rw [putSet_of es' t' rfl]; rfl)
    rw [putSet_of es' t' rfl] at q
    exact q
  have ho1 := put es1 t2 ho
  have sb1 := Heap.SameBut.update s.heap a (Obj.putSet es1 t2)
  split
  · have hp := relayAll_perm t2 es1 (SetTable.grown es1.size)
    have hfr := relayAll_fits t2 es1 (SetTable.grown es1.size)
    have hto := relayAll_ok ht2 es1 (SetTable.grown es1.size)
    generalize relayAll t2 es1 (SetTable.grown es1.size) = Rl at hp hfr hto ⊢
    obtain ⟨es2, t3, gave2⟩ := Rl
    dsimp only at hp hfr hto ⊢
    have hsz : es2.size = es1.size := by rw [← Array.length_toList, hp.length_eq, Array.length_toList]
    have hb2 : es2.size < scanBound := by rw [hsz]; exact hb1
    refine wpAny_bind (hg _ _ _ ?_)
    refine wpAny_bind (wpAny_storeSet_of ho1 rfl ?_ (fits_of_scanBound hb2))
    have hm : (es2.toList.map valI).Perm (es1.toList.map valI) := hp.map valI
    exact wpAny_pure (h _ (es2.toList.map valI) (sb1.trans (Heap.SameBut.update _ a _)) ⟨es2, _, t3, put es2 t3 ho1, hel1.perm hp, hb2, hfr, hto, rfl, hm.nodup_iff.mpr hnd⟩ hm)
  · exact wpAny_pure (h _ _ sb1 ⟨es1, _, t2, ho1, hel1, hb1, hf2, ht2, rfl, hnd⟩ .rfl)
theorem add_is {a : Addr} {led : Bool} {ks : List Int} {k : Int} {tk : Tok} {Q : Bool → Shared → Prop} (hS : SetIs prog w s.heap a led ks) (hroom : ks.length + 1 < scanBound)
    (h : ∀ h' ks', Heap.SameBut a s.heap h' → SetIs prog w h' a led ks' → ks'.Perm (if k ∈ ks then ks else ks ++ [k]) → Q (!decide (k ∈ ks)) { s with heap := h' }) :
    wpAny (model prog w) A (setAddHashed a (.int k tk) ((intKind prog w).hash k)) Q E s := by
  obtain ⟨es, ep, t, ho, hel, hb, hf, hto, hks, hnd⟩ := id hS
  have hkey : (intKind prog w).is k (.int k tk) = true := intKind_is _ _ _ _
  have hsc : (Value.int k tk).scannable = true := rfl
  have hlen : es.size = ks.length := by rw [← hks, List.length_map, Array.length_toList]
  unfold setAddHashed setAddHashedIn
  refine wpAny_holding (wpAny_bind (wpAny_setState_of ho rfl hf ?_))
  dsimp only
  rw [byScan_of hsc hb hel]
  simp only [↓reduceIte]
  unfold setAddByScan
  refine wpAny_bind ?_
  refine wpAny_bind (wpAny_rule ?_)
  refine wpAny_bind (wpAny_setScan_of hkey ho rfl hf hel ?_)
  have hfm := find_mem hel k
  rw [hks] at hfm
  cases hr : List.findIdx? (fun e => (intKind prog w).is k e.2) es.toList with
  | some j =>
    dsimp only
    have hin : k ∈ ks := hfm.mp (by rw [hr]; rfl)
    refine wpAny_pure (wpAny_pure ?_)
    have e : s = { s with heap := s.heap } := by cases s; rfl
    have := h s.heap ks (Heap.SameBut.refl a s.heap) hS (by rw [if_pos hin])
    rw [decide_eq_true hin] at this
    rw [e]; exact this
  | none =>
    dsimp only
    have hin : k ∉ ks := fun z => by have := hfm.mpr z; rw [hr] at this; cases this
    have hperm := layNew_perm t es ((intKind prog w).hash k) (.int k tk)
    have hfits := layNew_fits t es ((intKind prog w).hash k) (.int k tk)
    have hok := layNew_ok hto es ((intKind prog w).hash k) (.int k tk)
    generalize layNew t es ((intKind prog w).hash k) (.int k tk) = L at hperm hfits hok ⊢
    obtain ⟨es1, t1, wasDummy, gave⟩ := L
    dsimp only at hperm hfits hok ⊢
    rw [Array.toList_push] at hperm
    have hel1 : ElemsOf (intKind prog w) es1.toList := (hel.push hkey hsc).perm hperm
    have hb1 : es1.size < scanBound := by
      rw [← Array.length_toList, hperm.length_eq, List.length_append, Array.length_toList, hlen]; simpa using hroom
    have hm : (es1.toList.map valI).Perm (ks ++ [k]) := by
      have := hperm.map valI
      rw [List.map_append, hks] at this
      exact this
    have hnd1 : (es1.toList.map valI).Nodup := hm.nodup_iff.mpr (by
      rw [List.nodup_append]
      refine ⟨hnd, by simp, fun x hx y hy => ?_⟩
      have e : y = k := by simpa using hy
      subst e
      rintro rfl
      exact hin hx)
    have fin : ∀ h' ks', Heap.SameBut a s.heap h' → SetIs prog w h' a led ks' → ks'.Perm (es1.toList.map valI) → Q true { s with heap := h' } := fun h' ks' sb hS' hp => by
      have := h h' ks' sb hS' (by rw [if_neg hin]; exact hp.trans hm)
      rw [decide_eq_false hin] at this
      exact this
    have hgw : ∀ (b : Bool) {s₁ : Shared} {Q' : Unit → Shared → Prop}, Q' () s₁ → wpAny (model prog w) A (match b with | true => rule "set.scan.the-table-gave-way" | false => pure ()) Q' E s₁ :=
      fun b s₁ Q' hq => by cases b <;> first | exact wpAny_pure hq | exact wpAny_rule hq
    refine wpAny_bind (hgw _ ?_)
    split
    · refine wpAny_bind ?_
      rw [hashByValue_scannable 8 hsc]
      refine wpAny_pure ?_
      refine tail_is (led := led) ?_ ho hel1 hb1 ?_ ?_ hnd1 ?_
      · intro b s₁ Q' hq; cases b <;> first | exact wpAny_pure hq | exact wpAny_rule hq
      · split
        · exact hfits
        · exact SetTable.fits_plain_off hfits
      · split
        · exact hok
        · exact ⟨hok.rise, hok.nodum, hok.ld⟩
      · intro h' ks' sb hS' hp; dsimp only; exact wpAny_pure (fin h' ks' sb hS' hp)
    · refine wpAny_bind (wpAny_pure ?_)
      simp only [↓reduceIte]
      refine tail_is (led := led) ?_ ho hel1 hb1 hfits hok hnd1 ?_
      · intro b s₁ Q' hq; cases b <;> first | exact wpAny_pure hq | exact wpAny_rule hq
      · intro h' ks' sb hS' hp; dsimp only; exact wpAny_pure (fin h' ks' sb hS' hp)
end
end TC
set_option linter.all false
set_option maxRecDepth 100000
namespace TC
open PySem
theorem slot_si_next : Slot "set_iterator" "__next__" "set_iterator.__next__" :=
  .of (owner := "set_iterator") (n := "__next__") (by rw [typeLookup_type, builtinLookup_eq_fast]; kernel_rfl) (by decide +kernel) (by decide +kernel) (by decide +kernel)
    (by first | exact .inl (by decide +kernel) | exact .inr (by decide +kernel)) (by rw [isSubtype_type]; kernel_rfl)
theorem entry_si_next : entryFor table "set_iterator.__next__" = some Builtin.«set_iterator.__next__» := entryFor_of_tree (by kernel_rfl)
theorem owner_si : Manifest.owners.lookup (String.ofList ['r', 'o', 't', 'a', 'r', 'e', 't', 'i', '_', 't', 'e', 's'].reverse) = some Manifest.sig_set_iterator := by kernel_rfl
theorem args_si_next (a : Value) : argsOk "set_iterator.__next__" ⟨[a], []⟩ := by
  unfold argsOk; rw [signature?_of (id := "set_iterator.__next__") (n := ['_', '_', 't', 'x', 'e', 'n', '_', '_']) (o := ['r', 'o', 't', 'a', 'r', 'e', 't', 'i', '_', 't', 'e', 's']) (by kernel_rfl) owner_si]; kernel_rfl
theorem slot_si_iter : Slot "set_iterator" "__iter__" "set_iterator.__iter__" :=
  .of (owner := "set_iterator") (n := "__iter__") (by rw [typeLookup_type, builtinLookup_eq_fast]; kernel_rfl) (by decide +kernel) (by decide +kernel) (by decide +kernel)
    (by first | exact .inl (by decide +kernel) | exact .inr (by decide +kernel)) (by rw [isSubtype_type]; kernel_rfl)
theorem args_si_iter (a : Value) : argsOk "set_iterator.__iter__" ⟨[a], []⟩ := by
  unfold argsOk; rw [signature?_of (id := "set_iterator.__iter__") (n := ['_', '_', 'r', 'e', 't', 'i', '_', '_']) (o := ['r', 'o', 't', 'a', 'r', 'e', 't', 'i', '_', 't', 'e', 's']) (by kernel_rfl) owner_si]; kernel_rfl
theorem entry_si_iter : entryFor table "set_iterator.__iter__" = some Builtin.«dict_keyiterator.__iter__» :=
  entryFor_alias (id' := "dict_keyiterator.__iter__") (by kernel_rfl) (by first | rfl | decide +kernel | (unfold String.splitOn; simp +decide [String.splitOnAux])) (by decide +kernel) (by kernel_rfl)
theorem entry_set_iter : entryFor table "set.__iter__" = some Builtin.«frozenset.__iter__» :=
  entryFor_alias (id' := "frozenset.__iter__") (by kernel_rfl) (by first | rfl | decide +kernel | (unfold String.splitOn; simp +decide [String.splitOnAux])) (by decide +kernel) (by kernel_rfl)
end TC
set_option linter.all false
set_option maxRecDepth 100000
namespace TC
open PySem
section
variable {prog : Program} {w : World} {A : Around} {E : Value → Shared → Prop} {s : Shared}
abbrev setObj (es : Array (Int × Value)) (ep : Nat) (t : SetTable) : Obj := { cls := .type "set", dict := none, data := .set es ep t, slots := #[] }
abbrev siObj (f : Value) (i : Int) (a : Addr) (n ep : Nat) : Obj := { cls := .type "set_iterator", dict := none, data := .fields #[f, rawInt i, .ref a, rawInt n, rawInt ep], slots := #[] }
theorem setNext_text {a : Addr} {es : Array (Int × Value)} {ep : Nat} {t : SetTable} {slot i : Nat} {Q : Option (Value × Nat) → Shared → Prop} (ho : s.heap.get? a = some (setObj es ep t)) (hf : t.fits es.size = true)
    (hb : w.params.followText "set-order" = true) (h : Q (((pickOrder (w.params.setOrder a ep) es)[i]?).map fun e => (e.2, slot)) s) : wpAny (model prog w) A (setNext a slot i ep) Q E s := by
  unfold setNext
  refine wpAny_bind (wpAny_setState_of ho rfl hf ?_)
  dsimp only
  unfold setsByText
  refine wpAny_bind (wpAny_bind (wpAny_askSetting (wpAny_pure ?_)))
  show wpAny _ _ (if w.params.followText "set-order" = true then _ else _) _ _ _
  rw [if_pos hb]
  simp only [bne_self_eq_false, Bool.false_eq_true, if_false]
  refine wpAny_bind ?_
  unfold setWalk
  refine wpAny_bind (wpAny_setState_of ho rfl hf ?_)
  dsimp only
  unfold setsByText
  refine wpAny_bind (wpAny_bind (wpAny_askSetting (wpAny_pure ?_)))
  show wpAny _ _ (if w.params.followText "set-order" = true then _ else _) _ _ _
  rw [if_pos hb]
  refine wpAny_bind (wpAny_askSetting (wpAny_pure ?_))
  exact wpAny_pure h
theorem setNext_plain {a : Addr} {es : Array (Int × Value)} {ep : Nat} {t : SetTable} {slot i : Nat} {Q : Option (Value × Nat) → Shared → Prop} (ho : s.heap.get? a = some (setObj es ep t)) (hf : t.fits es.size = true)
    (hb : w.params.followText "set-order" = false) (hd : (!t.plain && decide (es.size > 1)) = false) (hl : t.led = true) (hi : SetTable.below t.place slot = i)
    (h : Q (match es[i]?, t.place[i]? with | some (_, x), some j => some (x, j + 1) | _, _ => none) s) : wpAny (model prog w) A (setNext a slot i ep) Q E s := by
  unfold setNext
  refine wpAny_bind (wpAny_setState_of ho rfl hf ?_)
  dsimp only
  unfold setsByText
  refine wpAny_bind (wpAny_bind (wpAny_askSetting (wpAny_pure ?_)))
  show wpAny _ _ (if w.params.followText "set-order" = true then _ else _) _ _ _
  rw [if_neg (by rw [hb]; exact Bool.false_ne_true)]
  show wpAny _ _ (if (!t.plain && decide (es.size > 1)) = true then _ else _) _ _ _
  rw [if_neg (by rw [hd]; exact Bool.false_ne_true)]
  refine wpAny_bind (m := if (!t.led && !es.isEmpty) = true then unsupported "set:maker-not-led" else pure ()) ?_
  rw [if_neg (by rw [hl]; simp)]
  refine wpAny_pure ?_
  rw [hi]
  exact wpAny_pure h
theorem si_item {it a : Addr} {slot i nx : Nat} {ep : Nat} {es : Array (Int × Value)} {t : SetTable} {x : Value} {Q : Option Value → Shared → Prop}
    (hit : s.heap.get? it = some (siObj (rawInt slot) (i : Nat) a es.size ep)) (ho : s.heap.get? a = some (setObj es ep t)) (hf : t.fits es.size = true)
    (hn : ∀ (A' : Around) (E' : Value → Shared → Prop) (R : Option (Value × Nat) → Shared → Prop), R (some (x, nx)) s → wpAny (model prog w) A' (setNext a slot i ep) R E' s)
    (hQ : ∀ h', h'.get? it = some (siObj (rawInt nx) ((i + 1 : Nat) : Int) a es.size ep) → Heap.SameBut it s.heap h' → Q (some x) { s with heap := h' }) :
    wpAny (model prog w) A (pyNext (.ref it)) Q E s := by
  have hT : s.TypeIs (.ref it) "set_iterator" := ⟨_, hit, rfl⟩
  unfold pyNext
  refine wpAny_bind (wpAny_attempt (wpAny_callSpecial?_slot (name := Str.ofString "__next__") hT slot_si_next
    (wpAny_call_entry slot_si_next hT entry_si_next ?_ (args_si_next _))))
  unfold Builtin.«set_iterator.__next__»
  refine wpAny_bind (wpAny_of_eq (a := (Value.ref it, [])) rfl ?_)
  refine wpAny_bind (wpAny_fieldsOf hit rfl ?_)
  dsimp only [rawInt]
  refine wpAny_bind (wpAny_setEntries_of ho rfl hf ?_)
  simp only [bne_self_eq_false, Bool.false_eq_true, if_false]
  simp only [Int.toNat_natCast]
  refine wpAny_bind (hn _ _ _ ?_)
  dsimp only
  refine wpAny_bind (wpAny_setField_rec hit (by simp) fun h₁ hi₁ hs₁ => ?_)
  refine wpAny_bind (wpAny_setField_rec hi₁ (by simp) fun h₂ hi₂ hs₂ => ?_)
  refine wpAny_pure ⟨x, rfl, wpAny_pure (hQ h₂ ?_ (hs₁.trans hs₂))⟩
  rw [hi₂]
  simp [siObj, rawInt]
theorem stop_here {it : Addr} {Q : Option Value → Shared → Prop} (hh : A.handled = none)
    (hQ : ∀ h', Heap.ExtBut it s.heap h' → Q none { s with heap := h' }) :
    wpAny (model prog w) A.in1 (newExc (.type "StopIteration") [] >>= fun e => raiseNew e : Sem Fin) (fun _ _ => False)
      (fun e s' => ∃ h', s' = { s with heap := h' } ∧ Heap.ExtBut it s.heap h' ∧ ∃ o, h'.get? (match e with | .ref b => b | _ => 0) = some o ∧ o.cls = .type "StopIteration" ∧ ∃ b, e = .ref b) s := by
  refine wpAny_bind ?_
  simp only [newExc, newTuple]
  refine wpAny_bind (wpAny_newObj_type ?_ (by size_fits))
  refine wpAny_bind (m := firstArgMember _ _) (wpAny_of_eq (a := Value.none) (by first | rfl | (simp only [firstArgMember]; rfl)) ?_)
  refine wpAny_newObj_type ?_ (by size_fits)
  simp only [raiseNew]
  refine wpAny_bind (wpAny_handled ?_)
  rw [show A.in1.handled = none from hh]
  refine wpAny_bind (wpAny_pure (wpAny_throw ?_))
  exact ⟨_, rfl, ((Heap.ExtBut.refl _ _).push _).push _, _, Heap.get?_push_size _ rfl, rfl, _, rfl⟩
theorem si_end {it a : Addr} {slot i : Nat} {ep : Nat} {es : Array (Int × Value)} {t : SetTable} {Q : Option Value → Shared → Prop} (hh : A.handled = none)
    (hit : s.heap.get? it = some (siObj (rawInt slot) (i : Nat) a es.size ep)) (ho : s.heap.get? a = some (setObj es ep t)) (hf : t.fits es.size = true)
    (hn : ∀ (A' : Around) (E' : Value → Shared → Prop) (R : Option (Value × Nat) → Shared → Prop), R none s → wpAny (model prog w) A' (setNext a slot i ep) R E' s)
    (hQ : ∀ h', Heap.ExtBut it s.heap h' → Q none { s with heap := h' }) :
    wpAny (model prog w) A (pyNext (.ref it)) Q E s := by
  have hT : s.TypeIs (.ref it) "set_iterator" := ⟨_, hit, rfl⟩
  unfold pyNext
  refine wpAny_bind (wpAny_attempt (wpAny_callSpecial?_slot (name := Str.ofString "__next__") hT slot_si_next
    (wpAny_call_entry slot_si_next hT entry_si_next ?_ (args_si_next _))))
  unfold Builtin.«set_iterator.__next__»
  refine wpAny_bind (wpAny_of_eq (a := (Value.ref it, [])) rfl ?_)
  refine wpAny_bind (wpAny_fieldsOf hit rfl ?_)
  dsimp only [rawInt]
  refine wpAny_bind (wpAny_setEntries_of ho rfl hf ?_)
  simp only [bne_self_eq_false, Bool.false_eq_true, if_false]
  simp only [Int.toNat_natCast]
  refine wpAny_bind (hn _ _ _ ?_)
  dsimp only
  refine wpAny_bind (wpAny_setField_rec hit (by simp) fun h₁ hi₁ hs₁ => ?_)
  refine wpAny_mono (stop_here (it := it) (Q := fun _ _ => True) hh fun _ _ => trivial) (fun _ _ f => f.elim) ?_
  rintro e s' ⟨h', rfl, eb, o, hoo, hc, b, rfl⟩
  refine wpAny_bind (wpAny_isInstance (T := "StopIteration") (b := true) ⟨o, hoo, hc⟩ isSubtype_stop ?_)
  exact wpAny_pure (hQ h' fun b' o' hb e' => eb b' o' hb (hs₁.extBut b' o' hb e'))
theorem si_self {it : Addr} {f : Value} {i : Int} {a : Addr} {n ep : Nat} {Q : Value → Shared → Prop} (hit : s.heap.get? it = some (siObj f i a n ep)) (h : Q (.ref it) s) : wpAny (model prog w) A (pyIter (.ref it)) Q E s := by
  have hT : s.TypeIs (.ref it) "set_iterator" := ⟨_, hit, rfl⟩
  refine wpAny_pyIter_slot hT slot_si_iter (wpAny_call_entry slot_si_iter hT entry_si_iter ?_ (args_si_iter _))
  show wpAny _ _ (ret (.ref it)) _ _ s
  exact wpAny_pure ⟨_, rfl, "set_iterator", _, hT, slot_si_next.lookup, h⟩
end
end TC
set_option linter.all false
set_option maxRecDepth 100000
namespace TC
open PySem PyProof.Rows
section
variable {prog : Program} {w : World} {A : Around} {E : Value → Shared → Prop} {s : Shared}
theorem choose_ {src : Source} {n : Nat} {Q : Nat → Shared → Prop} (hn : n ≠ 0) (h : Q (w.draws src (s.drawn.get src) % n) { s with drawn := s.drawn.bump src }) : wpAny (model prog w) A (choose src n) Q E s :=
  fun _ _ _ => ⟨hn, h⟩
theorem draw_perm {α : Type} : ∀ (n : Nat) (xs : List α) (s : Shared) (Q : List α → Shared → Prop), xs.length ≤ n → (∀ ys d, ys.Perm xs → Q ys { s with drawn := d }) → wpAny (model prog w) A (drawOrder n xs) Q E s := by
  intro n
  induction n with
  | zero =>
    intro xs s Q hl h
    have e : xs = [] := List.length_eq_zero_iff.mp (Nat.le_zero.mp hl)
    subst e
    unfold drawOrder
    exact wpAny_pure (h [] s.drawn .nil)
  | succ n ih =>
    intro xs s Q hl h
    match xs, hl, h with
    | [], _, h => unfold drawOrder; exact wpAny_pure (h [] s.drawn .nil)
    | y :: r, hl, h =>
      unfold drawOrder
      refine wpAny_bind (choose_ (by simp) ?_)
      have hlt : w.draws .order (s.drawn.get .order) % (y :: r).length < (y :: r).length := Nat.mod_lt _ (by simp)
      generalize w.draws .order (s.drawn.get .order) % (y :: r).length = i at hlt ⊢
      have hx : (y :: r)[i]? = some ((y :: r)[i]'hlt) := List.getElem?_eq_getElem hlt
      rw [hx]
      dsimp only
      refine wpAny_bind (ih _ _ _ ?_ fun ys d hp => wpAny_pure (h _ d ?_))
      · rw [List.length_eraseIdx, if_pos hlt]; omega
      · exact (List.Perm.cons _ hp).trans (erase_perm _ _ _ hx).symm
theorem si_item_drawn {it a T : Addr} {i : Nat} {ep : Nat} {es : Array (Int × Value)} {t : SetTable} {pl : List Nat} {j : Nat} {x : Value} {Q : Option Value → Shared → Prop} {cT : Nat}
    (hit : s.heap.get? it = some (siObj (.ref T) (i : Nat) a es.size ep)) (ho : s.heap.get? a = some (setObj es ep t)) (hf : t.fits es.size = true)
    (hT : s.heap.get? T = some { cls := .type "tuple", data := .seq (pl.map fun (k : Nat) => rawInt k).toArray cT }) (hj : pl[i]? = some j) (hx : (es[j]?).map (·.2) = some x)
    (hQ : ∀ h', h'.get? it = some (siObj (.ref T) ((i + 1 : Nat) : Int) a es.size ep) → Heap.SameBut it s.heap h' → Q (some x) { s with heap := h' }) :
    wpAny (model prog w) A (pyNext (.ref it)) Q E s := by
  have hTy : s.TypeIs (.ref it) "set_iterator" := ⟨_, hit, rfl⟩
  unfold pyNext
  refine wpAny_bind (wpAny_attempt (wpAny_callSpecial?_slot (name := Str.ofString "__next__") hTy slot_si_next
    (wpAny_call_entry slot_si_next hTy entry_si_next ?_ (args_si_next _))))
  unfold Builtin.«set_iterator.__next__»
  refine wpAny_bind (wpAny_of_eq (a := (Value.ref it, [])) rfl ?_)
  refine wpAny_bind (wpAny_fieldsOf hit rfl ?_)
  dsimp only [rawInt]
  refine wpAny_bind (wpAny_setEntries_of ho rfl hf ?_)
  simp only [bne_self_eq_false, Bool.false_eq_true, if_false]
  refine wpAny_bind (wpAny_seqItems hT rfl ?_)
  simp only [Int.toNat_natCast]
  have hg : (pl.map fun (k : Nat) => rawInt k).toArray[i]? = some (rawInt j) := by simp [hj]
  rw [hg]
  dsimp only [rawInt]
  refine wpAny_bind ?_
  unfold setNextDrawn
  refine wpAny_bind (wpAny_setState_of ho rfl hf ?_)
  simp only [bne_self_eq_false, Bool.false_eq_true, if_false, Int.toNat_natCast]
  cases he : es[j]? with
  | none => rw [he] at hx; cases hx
  | some e =>
    rw [he] at hx
    obtain ⟨e1, e2⟩ := e
    have hx' : e2 = x := by simpa using hx
    subst hx'
    dsimp only
    refine wpAny_pure ?_
    refine wpAny_bind (wpAny_setField_rec hit (by simp) fun h₂ hi₂ hs₂ => ?_)
    refine wpAny_pure ⟨e2, rfl, wpAny_pure (hQ h₂ ?_ hs₂)⟩
    rw [hi₂]
    simp [siObj, rawInt]
theorem si_end_drawn {it a T : Addr} {i : Nat} {ep : Nat} {es : Array (Int × Value)} {t : SetTable} {pl : List Nat} {Q : Option Value → Shared → Prop} {cT : Nat} (hh : A.handled = none)
    (hit : s.heap.get? it = some (siObj (.ref T) (i : Nat) a es.size ep)) (ho : s.heap.get? a = some (setObj es ep t)) (hf : t.fits es.size = true)
    (hT : s.heap.get? T = some { cls := .type "tuple", data := .seq (pl.map fun (k : Nat) => rawInt k).toArray cT }) (hj : pl.length ≤ i)
    (hQ : ∀ h', Heap.ExtBut it s.heap h' → Q none { s with heap := h' }) :
    wpAny (model prog w) A (pyNext (.ref it)) Q E s := by
  have hTy : s.TypeIs (.ref it) "set_iterator" := ⟨_, hit, rfl⟩
  unfold pyNext
  refine wpAny_bind (wpAny_attempt (wpAny_callSpecial?_slot (name := Str.ofString "__next__") hTy slot_si_next
    (wpAny_call_entry slot_si_next hTy entry_si_next ?_ (args_si_next _))))
  unfold Builtin.«set_iterator.__next__»
  refine wpAny_bind (wpAny_of_eq (a := (Value.ref it, [])) rfl ?_)
  refine wpAny_bind (wpAny_fieldsOf hit rfl ?_)
  dsimp only [rawInt]
  refine wpAny_bind (wpAny_setEntries_of ho rfl hf ?_)
  simp only [bne_self_eq_false, Bool.false_eq_true, if_false]
  refine wpAny_bind (wpAny_seqItems hT rfl ?_)
  simp only [Int.toNat_natCast]
  have hg : (pl.map fun (k : Nat) => rawInt k).toArray[i]? = none := by simp; omega
  rw [hg]
  dsimp only
  refine wpAny_bind (wpAny_setField_rec hit (by simp) fun h₁ hi₁ hs₁ => ?_)
  refine wpAny_bind (wpAny_setField_rec hi₁ (by simp) fun h₂ hi₂ hs₂ => ?_)
  refine wpAny_mono (stop_here (it := it) (Q := fun _ _ => True) hh fun _ _ => trivial) (fun _ _ f => f.elim) ?_
  rintro e s' ⟨h', rfl, eb, o, hoo, hc, b, rfl⟩
  refine wpAny_bind (wpAny_isInstance (T := "StopIteration") (b := true) ⟨o, hoo, hc⟩ isSubtype_stop ?_)
  exact wpAny_pure (hQ h' fun b' o' hb e' => eb b' o' hb ((hs₁.trans hs₂).extBut b' o' hb e'))
theorem walk_text (hh : A.handled = none) (hb : w.params.followText "set-order" = true) (I a : Addr) (hne : a ≠ I) {es : Array (Int × Value)} {ep : Nat} {t : SetTable} (hf : t.fits es.size = true) :
    Walks prog w A I [I, a] [I] es.size (fun i v => ((pickOrder (w.params.setOrder a ep) es).toList.map (·.2))[i]? = some v) (fun i h => h.get? I = some (siObj (rawInt 0) (i : Nat) a es.size ep) ∧ h.get? a = some (setObj es ep t)) where
  sub := fun b hb => by simp at hb; simp [hb]
  frame := fun i h h' st hk => ⟨hk I (by simp) _ st.1, hk a (by simp) _ st.2⟩
  item := fun i s Q E hi st hQ => by
    have hl : (pickOrder (w.params.setOrder a ep) es).size = es.size := by
      have := (pickOrder_perm (w.params.setOrder a ep) es).length_eq
      simpa using this
    have hg : (pickOrder (w.params.setOrder a ep) es)[i]? = some ((pickOrder (w.params.setOrder a ep) es)[i]'(by omega)) := Array.getElem?_eq_getElem (by omega)
    refine si_item (x := ((pickOrder (w.params.setOrder a ep) es)[i]'(by omega)).2) (nx := 0) st.1 st.2 hf (fun A' E' R hr => setNext_text st.2 hf hb (by rw [hg]; exact hr)) fun h' h1 sb => ?_
    refine hQ _ h' s.toks ?_ ⟨h1, (sb.2 a hne).trans st.2⟩ fun b o hb e => (sb.2 b (fun z => hb (by simp [z]))).trans e
    rw [List.getElem?_map, Array.getElem?_toList, hg]; rfl
  done := fun s Q E st hQ => by
    have hl : (pickOrder (w.params.setOrder a ep) es).size = es.size := by
      have := (pickOrder_perm (w.params.setOrder a ep) es).length_eq
      simpa using this
    have hg : (pickOrder (w.params.setOrder a ep) es)[es.size]? = none := Array.getElem?_eq_none (by omega)
    exact si_end hh st.1 st.2 hf (fun A' E' R hr => setNext_text st.2 hf hb (by rw [hg]; exact hr)) fun h' eb => hQ h' s.toks fun b o hb e => eb b o (fun z => hb (by simp [z])) e
  self := fun i s Q E st hq => si_self st.1 hq
def slotAt (t : SetTable) : Nat → Nat
  | 0 => 0
  | i + 1 => t.place.getD i 0 + 1
theorem below_slot {led : Bool} {t : SetTable} (ht : TOk led t) (i : Nat) (hi : i ≤ t.place.size) : SetTable.below t.place (slotAt t i) = i := by
  cases i with
  | zero => exact below_zero _ ht.rise
  | succ i => exact below_next _ i ht.rise hi
theorem walk_plain (hh : A.handled = none) (hb : w.params.followText "set-order" = false) (I a : Addr) (hne : a ≠ I) {es : Array (Int × Value)} {ep : Nat} {t : SetTable} (hf : t.fits es.size = true) (ht : TOk true t)
    (hd : (!t.plain && decide (es.size > 1)) = false) :
    Walks prog w A I [I, a] [I] es.size (fun i v => (es.toList.map (·.2))[i]? = some v) (fun i h => h.get? I = some (siObj (rawInt (slotAt t i)) (i : Nat) a es.size ep) ∧ h.get? a = some (setObj es ep t)) where
  sub := fun b hb => by simp at hb; simp [hb]
  frame := fun i h h' st hk => ⟨hk I (by simp) _ st.1, hk a (by simp) _ st.2⟩
  item := fun i s Q E hi st hQ => by
    have hp : t.place.size = es.size := by simp [SetTable.fits] at hf; exact hf.1
    have hg : es[i]? = some es[i] := Array.getElem?_eq_getElem hi
    have hg2 : t.place[i]? = some (t.place[i]'(by omega)) := Array.getElem?_eq_getElem (by omega)
    have hge : t.place.getD i 0 = t.place[i]'(by omega) := by simp [Array.getD, show i < t.place.size by omega]
    refine si_item (x := es[i].2) (nx := slotAt t (i + 1)) st.1 st.2 hf (fun A' E' R hr => setNext_plain st.2 hf hb hd ht.ld (below_slot ht i (by omega)) (by rw [hg, hg2]; show R (some (es[i].2, _)) s; rw [← hge]; exact hr)) fun h' h1 sb => ?_
    refine hQ _ h' s.toks ?_ ⟨h1, (sb.2 a hne).trans st.2⟩ fun b o hb e => (sb.2 b (fun z => hb (by simp [z]))).trans e
    rw [List.getElem?_map, Array.getElem?_toList, hg]; rfl
  done := fun s Q E st hQ => by
    have hp : t.place.size = es.size := by simp [SetTable.fits] at hf; exact hf.1
    have hg : es[es.size]? = none := Array.getElem?_eq_none (Nat.le_refl _)
    exact si_end hh st.1 st.2 hf (fun A' E' R hr => setNext_plain st.2 hf hb hd ht.ld (below_slot ht es.size (by omega)) (by rw [hg]; exact hr)) fun h' eb => hQ h' s.toks fun b o hb e => eb b o (fun z => hb (by simp [z])) e
  self := fun i s Q E st hq => si_self st.1 hq
theorem walk_drawn (hh : A.handled = none) (I a T : Addr) (hne : a ≠ I) (hneT : T ≠ I) {es : Array (Int × Value)} {ep cT : Nat} {t : SetTable} {pl : List Nat} (hf : t.fits es.size = true) (hpl : pl.Perm (List.range es.size)) :
    Walks prog w A I [I, a, T] [I] es.size (fun i v => (pl.map fun j => ((es[j]?).map (·.2)).getD .none)[i]? = some v)
      (fun i h => h.get? I = some (siObj (.ref T) (i : Nat) a es.size ep) ∧ h.get? a = some (setObj es ep t) ∧ h.get? T = some { cls := .type "tuple", data := .seq (pl.map fun (k : Nat) => rawInt k).toArray cT }) where
  sub := fun b hb => by simp at hb; simp [hb]
  frame := fun i h h' st hk => ⟨hk I (by simp) _ st.1, hk a (by simp) _ st.2.1, hk T (by simp) _ st.2.2⟩
  item := fun i s Q E hi st hQ => by
    have hl : pl.length = es.size := by rw [hpl.length_eq, List.length_range]
    have hj : pl[i]? = some (pl[i]'(by omega)) := List.getElem?_eq_getElem (by omega)
    have hjm : pl[i]'(by omega) < es.size := by
      have : pl[i]'(by omega) ∈ List.range es.size := hpl.mem_iff.mp (List.getElem_mem _)
      simpa using this
    generalize pl[i]'(by omega) = j at hj hjm
    have hx : (es[j]?).map (·.2) = some es[j].2 := by rw [Array.getElem?_eq_getElem hjm]; rfl
    refine si_item_drawn st.1 st.2.1 hf st.2.2 hj hx fun h' h1 sb => ?_
    refine hQ _ h' s.toks ?_ ⟨h1, (sb.2 a hne).trans st.2.1, (sb.2 T hneT).trans st.2.2⟩ fun b o hb e => (sb.2 b (fun z => hb (by simp [z]))).trans e
    rw [List.getElem?_map, hj]
    simp [hjm]
  done := fun s Q E st hQ => by
    have hl : pl.length = es.size := by rw [hpl.length_eq, List.length_range]
    exact si_end_drawn hh st.1 st.2.1 hf st.2.2 (by omega) fun h' eb => hQ h' s.toks fun b o hb e => eb b o (fun z => hb (by simp [z])) e
  self := fun i s Q E st hq => si_self st.1 hq
theorem ints_of_elems : ∀ {l : List (Int × Value)}, ElemsOf (intKind prog w) l → IntsAre (l.map (·.2)) (l.map valI)
  | [], _ => .nil
  | e :: r, h => by
    obtain ⟨t, ht⟩ := elem_int (h.head).1
    have := ints_of_elems h.tail
    rw [List.map_cons, List.map_cons, ht]
    exact .cons _ _ this
theorem ints_perm {vs vs' : List Value} (p : vs.Perm vs') : ∀ {ns : List Int}, IntsAre vs ns → ∃ ns', IntsAre vs' ns' ∧ ns'.Perm ns := by
  induction p with
  | nil => intro ns h; exact ⟨ns, h, .rfl⟩
  | cons x _ ih =>
    intro ns h
    cases h with
    | cons n t h =>
      obtain ⟨ns', h1, h2⟩ := ih h
      exact ⟨n :: ns', .cons n t h1, h2.cons n⟩
  | swap x y l =>
    intro ns h
    cases h with
    | cons n t h =>
      cases h with
      | cons m u h => exact ⟨m :: n :: _, .cons m u (.cons n t h), .swap n m _⟩
  | trans _ _ ih1 ih2 =>
    intro ns h
    obtain ⟨n1, h1, p1⟩ := ih1 h
    obtain ⟨n2, h2, p2⟩ := ih2 h1
    exact ⟨n2, h2, p2.trans p1⟩
theorem slotArgs_iter (a : Addr) : Builtin.Frozenset.slot0 "__iter__" ⟨[.ref a], []⟩ = (pure a : Sem Addr) := rfl
theorem set_iter {a : Addr} {ks : List Int} {Q : Value → Shared → Prop} (hS : SetIs prog w s.heap a (!w.params.followText "set-order") ks)
    (h : ∀ (I : Addr) (fp : List Addr) (vs : List Value) (ks' : List Int) (St : Nat → Heap → Prop) (h' : Heap) (d' : Drawn), IntsAre vs ks' → ks'.Perm ks →
      (∀ A' : Around, A'.handled = none → Walks prog w A' I fp [I] vs.length (fun i v => vs[i]? = some v) St) → St 0 h' → (∀ b ∈ fp, b = a ∨ (s.heap.objs.size ≤ b ∧ b < h'.objs.size)) → s.heap.objs.size ≤ I →
      (∀ b o, s.heap.get? b = some o → h'.get? b = some o) → Q (.ref I) { s with heap := h', drawn := d' }) :
    wpAny (model prog w) A (pyIter (.ref a)) Q E s := by
  obtain ⟨es, ep, t, ho, hel, hb, hf, hto, hks, hnd⟩ := id hS
  have hT : s.TypeIs (.ref a) "set" := ⟨_, ho, rfl⟩
  have hlt : a < s.heap.objs.size := Heap.lt_size ho
  have hI0 : IntsAre (es.toList.map (·.2)) ks := by rw [← hks]; exact ints_of_elems hel
  have hlen : es.size = (es.toList.map (·.2)).length := by simp
  refine wpAny_pyIter_slot hT F.slot_set_iter (wpAny_call_entry F.slot_set_iter hT entry_set_iter ?_ (F.args_set_iter_1 _))
  unfold Builtin.«frozenset.__iter__»
  refine wpAny_bind (wpAny_of_eq (slotArgs_iter a) ?_)
  refine wpAny_bind ?_
  unfold Builtin.Frozenset.sizeOf
  refine wpAny_bind (wpAny_setEntries_of ho rfl hf (wpAny_pure ?_))
  refine wpAny_bind ?_
  unfold setDrawn
  refine wpAny_bind (wpAny_setState_of ho rfl hf ?_)
  dsimp only
  unfold setsByText
  refine wpAny_bind (wpAny_bind (wpAny_askSetting (wpAny_pure ?_)))
  refine wpAny_pure ?_
  show wpAny _ _ (if (!w.params.followText "set-order" && (!t.plain && decide (es.size > 1))) = true then _ else _) _ _ _
  have ex : ∀ {vs : List Value}, vs.Perm (es.toList.map (·.2)) → ∃ ks', IntsAre vs ks' ∧ ks'.Perm ks ∧ vs.length = es.size := fun {vs} p => by
    obtain ⟨ks', h1, h2⟩ := ints_perm p.symm hI0
    exact ⟨ks', h1, h2, by rw [p.length_eq, ← hlen]⟩
  by_cases hc : (!w.params.followText "set-order" && (!t.plain && decide (es.size > 1))) = true
  · rw [if_pos hc]
    refine wpAny_bind (draw_perm _ _ _ _ (by simp) fun pl d hp => ?_)
    refine wpAny_bind (wpAny_newTuple ?_ (by
      rw [List.length_map, hp.length_eq, List.length_range]
      exact fits_of_scanBound hb))
    refine wpAny_bind (wpAny_setEpoch_of (Heap.get?_push_of_some _ ho) rfl hf ?_)
    refine wpAny_bind (wpAny_newObj_type (wpAny_pure ⟨_, rfl, "set_iterator", _, ⟨_, Heap.get?_push_size _ rfl, rfl⟩, slot_si_next.lookup, ?_⟩))
    have hp2 : (pl.map fun j => ((es[j]?).map (·.2)).getD .none).Perm (es.toList.map (·.2)) := by
      refine (hp.map _).trans (List.Perm.of_eq ?_)
      refine List.ext_getElem? fun i => ?_
      rw [List.getElem?_map, List.getElem?_map]
      by_cases hi : i < es.size
      · rw [List.getElem?_range hi, Array.getElem?_toList, Array.getElem?_eq_getElem hi]; simp [hi]
      · rw [List.getElem?_eq_none (by simpa using hi), List.getElem?_eq_none (by simpa using hi)]; rfl
    obtain ⟨ks', h1, h2, h3⟩ := ex hp2
    have ne1 : ∀ (o : Obj), a ≠ (s.heap.push o).objs.size := fun o => by rw [Heap.size_push]; exact Nat.ne_of_lt (Nat.lt_succ_of_lt hlt)
    have ne2 : ∀ (o : Obj), s.heap.objs.size ≠ (s.heap.push o).objs.size := fun o => by rw [Heap.size_push]; exact Nat.ne_of_lt (Nat.lt_succ_self _)
    refine h _ [_, a, s.heap.objs.size] _ ks' (fun i h => h.get? _ = some (siObj (.ref s.heap.objs.size) (i : Nat) a es.size ep) ∧ h.get? a = some (setObj es ep t) ∧ h.get? s.heap.objs.size = some { cls := .type "tuple", data := .seq (pl.map fun (k : Nat) => rawInt k).toArray 0 }) _ d h1 h2 (fun A' hh' => by rw [h3]; exact walk_drawn hh' _ a s.heap.objs.size (ne1 _) (ne2 _) hf hp) ⟨Heap.get?_push_size _ rfl, Heap.get?_push_of_some _ (Heap.get?_push_of_some _ ho), Heap.get?_push_of_some _ (Heap.get?_push_size _ rfl)⟩ ?_ ?_ ?_
    · intro b hb
      simp only [List.mem_cons, List.not_mem_nil, or_false] at hb
      rcases hb with rfl | rfl | rfl
      · refine .inr ?_
        show s.heap.objs.size ≤ (s.heap.push _).objs.size ∧ (s.heap.push _).objs.size < ((s.heap.push _).push _).objs.size
        rw [Heap.size_push, Heap.size_push]
        exact ⟨Nat.le_succ _, by rw [Heap.size_push]; exact Nat.lt_succ_self _⟩
      · exact .inl rfl
      · refine .inr ⟨Nat.le_refl _, ?_⟩
        show s.heap.objs.size < ((s.heap.push _).push _).objs.size
        rw [Heap.size_push, Heap.size_push]
        exact Nat.lt_succ_of_lt (Nat.lt_succ_self _)
    · show s.heap.objs.size ≤ (s.heap.push _).objs.size
      rw [Heap.size_push]; exact Nat.le_succ _
    · exact fun b o e => Heap.get?_push_of_some _ (Heap.get?_push_of_some _ e)
  · rw [if_neg hc]
    refine wpAny_bind (wpAny_pure ?_)
    refine wpAny_bind (wpAny_setEpoch_of ho rfl hf ?_)
    refine wpAny_bind (wpAny_newObj_type (wpAny_pure ⟨_, rfl, "set_iterator", _, ⟨_, Heap.get?_push_size _ rfl, rfl⟩, slot_si_next.lookup, ?_⟩))
    have fpb : ∀ (o : Obj) (b : Addr), b ∈ [s.heap.objs.size, a] → b = a ∨ (s.heap.objs.size ≤ b ∧ b < (s.heap.push o).objs.size) := fun o b hb => by
      simp only [List.mem_cons, List.not_mem_nil, or_false] at hb
      rcases hb with rfl | rfl
      · exact .inr ⟨Nat.le_refl _, by rw [Heap.size_push]; exact Nat.lt_succ_self _⟩
      · exact .inl rfl
    have e0 : s.drawn = s.drawn := rfl
    cases hbt : w.params.followText "set-order" with
    | true =>
      obtain ⟨ks', h1, h2, h3⟩ := ex ((pickOrder_perm (w.params.setOrder a ep) es).map (·.2))
      exact h _ [_, a] _ ks' (fun i h => h.get? _ = some (siObj (rawInt 0) (i : Nat) a es.size ep) ∧ h.get? a = some (setObj es ep t)) _ s.drawn h1 h2 (fun A' hh' => by rw [h3]; exact walk_text hh' hbt _ a (Nat.ne_of_lt hlt) hf) ⟨Heap.get?_push_size _ rfl, Heap.get?_push_of_some _ ho⟩ (fpb _) (Nat.le_refl _) fun b o e => Heap.get?_push_of_some _ e
    | false =>
      rw [hbt] at hto hc
      have hd : (!t.plain && decide (es.size > 1)) = false := by
        cases q : (!t.plain && decide (es.size > 1)) with
        | false => rfl
        | true => rw [q] at hc; exact absurd rfl hc
      obtain ⟨ks', h1, h2, h3⟩ := ex (List.Perm.refl (es.toList.map (·.2)))
      exact h _ [_, a] _ ks' (fun i h => h.get? _ = some (siObj (rawInt (slotAt t i)) (i : Nat) a es.size ep) ∧ h.get? a = some (setObj es ep t)) _ s.drawn h1 h2 (fun A' hh' => by rw [h3]; exact walk_plain hh' hbt _ a (Nat.ne_of_lt hlt) hf hto hd) ⟨Heap.get?_push_size _ rfl, Heap.get?_push_of_some _ ho⟩ (fpb _) (Nat.le_refl _) fun b o e => Heap.get?_push_of_some _ e
end
end TC
set_option linter.all false
set_option maxRecDepth 100000
namespace TC
open PySem PyProof.Rows
section
variable {prog : Program} {w : World} {A : Around} {E : Value → Shared → Prop} {s : Shared}
theorem loop_is {R : Result → Shared → Prop} {I : Addr} {fp wr : List Addr} {G : Array GenState → Array GenState → Prop} {vs : List Value} {ns : List Int} {St : Nat → Shared → Prop}
    (W : WalksS prog w A.in1 I fp wr G vs.length (fun i v => vs[i]? = some v) St) (hI : IntsAre vs ns) (S : Addr) (hSf : S ∉ fp) (led : Bool) (hb : vs.length + 1 < scanBound) :
    ∀ (k i : Nat) (s : Shared) (ks : List Int), vs.length - i = k → i ≤ vs.length → ks.length ≤ i → (∀ z, z ∈ ks ↔ z ∈ ns.take i) → St i s → SetIs prog w s.heap S led ks →
      (∀ s' ks', Moved (S :: wr) G s s' → SetIs prog w s'.heap S led ks' → ks'.length ≤ vs.length → (∀ z, z ∈ ks' ↔ z ∈ ns) → R (.ok (.ret .none)) s') →
      codeAny (model prog w) A (.builtin "set.update.loop" ⟨[.ref S, .ref I], []⟩) R s := by
  have hSw : S ∉ wr := fun h => hSf (W.sub _ h)
  have hsub : ∀ b ∈ wr, b ∈ S :: wr := fun b hb => List.mem_cons_of_mem _ hb
  have hvn : vs.length = ns.length := IntsAre.length hI
  intro k
  induction k with
  | zero =>
    intro i s ks hk hi hkl hmem hst hS hR
    have hin : i = vs.length := by omega
    subst hin
    refine codeAny_builtin F.entry_set_update_loop ?_
    rw [Around.under_plainId F.plain_set_update_loop _]
    show wpAny _ A.in1 (pyNext (.ref I) >>= _) _ _ s
    refine wpAny_bind (W.done s _ _ hst fun s' hm => ?_)
    show wpAny _ A.in1 (ret Value.none) _ _ s'
    refine wpAny_pure (hR s' ks (hm.mono hsub) (hS.at fun o e => hm.heap S o hSw e) hkl fun z => ?_)
    rw [hmem z, hvn, List.take_length]
  | succ k ih =>
    intro i s ks hk hi hkl hmem hst hS hR
    have hlt : i < vs.length := by omega
    refine codeAny_builtin F.entry_set_update_loop ?_
    rw [Around.under_plainId F.plain_set_update_loop _]
    show wpAny _ A.in1 (pyNext (.ref I) >>= _) _ _ s
    refine wpAny_bind (W.item i s _ _ hlt hst fun v s' hP hst' hm => ?_)
    obtain ⟨t, rfl⟩ := IntsAre.int_at hI i v hP
    have hS' : SetIs prog w s'.heap S led ks := hS.at fun o e => hm.heap S o hSw e
    show wpAny _ A.in1 (holding [Value.int (ns.getD i 0) t] (setAdd S (.int (ns.getD i 0) t)) >>= _) _ _ s'
    refine wpAny_bind (wpAny_holding ?_)
    unfold setAdd
    refine wpAny_holding ?_
    refine wpAny_bind ((intKind prog w).pyHash (k := ns.getD i 0) (intKind_is _ _ _ _) ?_)
    refine add_is (s := { s' with toks := s'.toks + 1 }) hS' (by omega) fun h' ks' sb hS2 hp => ?_
    have htake : ns.take (i + 1) = ns.take i ++ [ns.getD i 0] := by
      rw [List.take_add_one, List.getD_eq_getElem?_getD, List.getElem?_eq_getElem (show i < ns.length by omega)]
      rfl
    have hmem' : ∀ z, z ∈ ks' ↔ z ∈ ns.take (i + 1) := fun z => by
      rw [hp.mem_iff, htake, List.mem_append]
      by_cases hin : ns.getD i 0 ∈ ks
      · rw [if_pos hin, hmem z]
        constructor
        · exact .inl
        · rintro (h | h)
          · exact h
          · rw [List.mem_singleton.mp h]; exact (hmem _).mp hin
      · rw [if_neg hin, List.mem_append, hmem z]
    have hkl' : ks'.length ≤ i + 1 := by
      rw [hp.length_eq]
      split
      · omega
      · rw [List.length_append, List.length_singleton]; omega
    refine wpAny_pure ⟨plainId_quiet F.plain_set_update_loop _, ih (i + 1) _ ks' (by omega) hlt hkl' hmem' (W.frame _ s' _ _ hst' (Nat.le_succ _) fun b hb o e => ?_) hS2 fun s'' ks2 hm'' hS'' h1 h2 => ?_⟩
    · rw [sb.2 b (fun h : b = S => hSf (by rw [← h]; exact hb))]; exact e
    · refine hR s'' ks2 (Moved.trans W.gtrans ((hm.mono hsub).then_heap (Nat.le_succ _) fun b o hb e => ?_) hm'') hS'' h1 h2
      rw [sb.2 b (fun h : b = S => hb (by rw [h]; exact List.mem_cons_self))]; exact e
theorem new_is (a : Value) {Q₁ : Value → Shared → Prop}
    (h : Q₁ (.ref s.heap.objs.size) { s with heap := s.heap.push (setObj #[] 0 (.fresh 0 0 (!w.params.followText "set-order"))) }) :
    codeAny (model prog w) A (.call (.builtin "set.__new__") ⟨[.type "set", a], []⟩) (wants Q₁ E) s := by
  refine codeAny_of_tree ?_
  show wpAny _ A.in1 (do checkBuiltinCall "set.__new__" ⟨[.type "set", a], []⟩; again (.builtin "set.__new__" ⟨[.type "set", a], []⟩)) _ _ s
  refine wpAny_bind (wpAny_of_eq (F.newCall_set_1 a) (wpAny_pure ⟨plainId_quiet F.plain_set_new _, codeAny_builtin F.entry_set_new ?_⟩))
  rw [Around.under_plainId F.plain_set_new _]
  unfold Builtin.«set.__new__» Builtin.Frozenset.newClass
  have hsub := sub_set_self
  obtain ⟨hp, g, d, tk, os⟩ := s
  dsimp only
  wp_walk
  refine wpAny_askSetting (wpAny_pure ?_)
  dsimp only
  simp only [newObj]
  refine wpAny_bind (wpAny_alloc (wpAny_pure ?_))
  exact wpAny_pure h
set_option maxHeartbeats 3200000 in
theorem set_call {l : Addr} {vs : List Value} {ns : List Int} {Q : Value → Shared → Prop} (hh : A.handled = none) (hl : s.heap.IsList l vs.toArray) (hi : IntsAre vs ns) (hb : vs.length + 1 < scanBound)
    (h : ∀ (h' : Heap) (tk : Nat) (ks : List Int), SetIs prog w h' s.heap.objs.size (!w.params.followText "set-order") ks → (∀ z, z ∈ ks ↔ z ∈ ns) → ks.length ≤ vs.length →
      (∀ b o, b < s.heap.objs.size → s.heap.get? b = some o → h'.get? b = some o) → Q (.ref s.heap.objs.size) { s with heap := h', toks := tk }) :
    wpAny (model prog w) A (call (.type "set") [.ref l]) Q E s := by
  obtain ⟨c, tl, hmro⟩ := F.called_set.mro
  have hmade := F.called_set.made
  have hsub := F.called_set.sub
  refine wpAny_call (codeAny_of_tree ?_)
  show wpAny _ _ (callAny (.type "set") _) _ _ _
  refine wpAny_pure ⟨Code.quiet_builtin _ (by decide +kernel), codeAny_builtin F.entry_type_call ?_⟩
  rw [Around.under_plain (weight_type_call_type "set" [.ref l] []) rfl]
  have h1 := F.called_set.notType
  have h2 := F.called_set.canCreate
  have hct := F.typeCall_set_1 (.ref l)
  repeat (any_goals (first | assumption | wp_step))
  refine codeAny_mono (new_is (.ref l) (E := E) (Q₁ := fun obj s₁ => obj = .ref s.heap.objs.size ∧ s₁ = { s with heap := s.heap.push (setObj #[] 0 (.fresh 0 0 (!w.params.followText "set-order"))) }) ⟨rfl, rfl⟩) fun r s₁ hr => ?_
  cases r with
  | error e => exact hr
  | ok fl =>
    cases fl with
    | ret obj =>
      obtain ⟨rfl, rfl⟩ := hr
      generalize hled : (!w.params.followText "set-order") = led at h ⊢
      have hS : (s.heap.push (setObj #[] 0 (.fresh 0 0 led))).get? s.heap.objs.size = some (setObj #[] 0 (.fresh 0 0 led)) := Heap.get?_push_size _ rfl
      have hT : Shared.TypeIs { s with heap := s.heap.push (setObj #[] 0 (.fresh 0 0 led)) } (.ref s.heap.objs.size) "set" := ⟨_, hS, rfl⟩
      have hli := F.called_set.init.lookup
      have hbi := F.called_set.init.bind (.ref s.heap.objs.size)
      repeat (any_goals (first | assumption | wp_step))
      refine codeAny_mono (codeAny_call_builtin (R := wants (fun r s₂ => r = .none ∧ ∃ h' tk ks, s₂ = { s with heap := h', toks := tk } ∧ SetIs prog w h' s.heap.objs.size led ks ∧ (∀ z, z ∈ ks ↔ z ∈ ns) ∧ ks.length ≤ vs.length ∧
          (∀ b o, b < s.heap.objs.size → s.heap.get? b = some o → h'.get? b = some o)) E) F.called_set.init.plain F.entry_set_init (check_set_init_1 hT ?_)) fun r₂ s₂ hr₂ => ?_
      · obtain ⟨ol, hol, hcl, nl, hdl⟩ := hl
        obtain ⟨ocls, odict, odata, oslots⟩ := ol
        simp only at hcl hdl
        subst hcl; subst hdl
        have hol' : (s.heap.push (setObj #[] 0 (.fresh 0 0 led))).get? l = some { cls := .type "list", dict := odict, data := .seq vs.toArray nl, slots := oslots } := Heap.get?_push_of_some _ hol
        have hsls := F.sub_list_set
        have hslf := F.sub_list_frozenset
        have hne : (Value.type "list" == Value.type "dict") = false := by decide
        have hl1 : (s.heap.push (setObj #[] 0 (.fresh 0 0 led))).IsList l vs.toArray := ⟨_, hol', rfl, nl, rfl⟩
        unfold Builtin.«set.__init__» noKeywords Builtin.Frozenset.updateFrom
        generalize hPI : pyIter = PI
        wp_walk
        subst hPI
        refine wpAny_pyIter_list hl1 ?_
        refine wpAny_bind (wpAny_runValue ?_)
        have hlS : l < s.heap.objs.size := Heap.lt_size hol
        have hh3 : A.in1.in1.in1.handled = none := by simp [hh]
        have hneI : l ≠ (s.heap.push (setObj #[] 0 (.fresh 0 0 led))).objs.size := by
          rw [Heap.size_push]; exact Nat.ne_of_lt (Nat.lt_succ_of_lt hlS)
        have hSf : s.heap.objs.size ∉ [(s.heap.push (setObj #[] 0 (.fresh 0 0 led))).objs.size, l] := by
          rw [Heap.size_push]; simp only [List.mem_cons, List.not_mem_nil, or_false, not_or]
          exact ⟨Nat.ne_of_lt (Nat.lt_succ_self _), Nat.ne_of_gt hlS⟩
        have W0 := (Walks.list (prog := prog) (w := w) hh3 _ l hneI vs.toArray).toS
        have e1 : vs.toArray.size = vs.length := List.size_toArray
        have e2 : (fun (i : Nat) (v : Value) => vs.toArray[i]? = some v) = fun i v => vs[i]? = some v := by funext i v; simp
        rw [e1, e2] at W0
        refine loop_is W0 hi s.heap.objs.size hSf led hb (vs.length - 0) 0 _ [] (by omega) (Nat.zero_le _) (Nat.zero_le _) (fun z => by simp) ⟨⟨_, Heap.get?_push_size _ rfl, rfl, rfl⟩, (hl1.push _)⟩ ?hS0 ?hR
        case hS0 =>
          refine ⟨#[], 0, .fresh 0 0 led, Heap.get?_push_of_some _ hS, fun e he => by simp at he, by decide, by rfl, ⟨?_, rfl, rfl⟩, rfl, List.nodup_nil⟩
          exact List.Pairwise.nil
        case hR =>
          intro s' ks hm hS' hk1 hk2
          obtain ⟨h', g', d', tk', os'⟩ := s'
          have eg : g' = s.gens := hm.gens
          have ed : d' = s.drawn := hm.drawn
          have eo : os' = s.os := hm.os
          subst eg; subst ed; subst eo
          show wpAny _ _ _ _ _ _
          refine wpAny_pure ?_
          show wpAny _ _ (ret Value.none) _ _ _
          refine wpAny_pure ⟨rfl, h', tk', ks, rfl, hS', hk2, hk1, fun b o hb e => ?_⟩
          have hb1 : b ≠ s.heap.objs.size := Nat.ne_of_lt hb
          have hb2 : b ≠ (s.heap.push (setObj #[] 0 (.fresh 0 0 led))).objs.size := by
            rw [Heap.size_push]; exact Nat.ne_of_lt (Nat.lt_succ_of_lt hb)
          exact hm.heap b o (by simp only [List.mem_cons, List.not_mem_nil, or_false, not_or]; exact ⟨hb1, hb2⟩) (Heap.get?_push_of_some _ (Heap.get?_push_of_some _ e))
      · cases r₂ with
        | error e => exact hr₂
        | ok fl₂ =>
          cases fl₂ with
          | ret r =>
            obtain ⟨rfl, h', tk, ks, rfl, hS', hk2, hk1, hk'⟩ := hr₂
            repeat (any_goals (first | assumption | wp_step))
            exact h _ _ _ hS' hk2 hk1 hk'
          | _ => exact hr₂.elim
    | _ => exact hr.elim
end
end TC
set_option linter.all false
set_option maxRecDepth 100000
namespace TC
open PySem PyProof.Rows
section
variable {prog : Program} {w : World} {A : Around} {E : Value → Shared → Prop} {s : Shared}
theorem hint_set {r : Addr} {Q : Bool → Shared → Prop} (hT : s.TypeIs (.ref r) "set") (h : Q false s) : wpAny (model prog w) A (Builtin.List.listLengthHint (.ref r)) Q E s := by
  unfold Builtin.List.listLengthHint
  refine wpAny_bind (wpAny_specialOf hT F.slot_set_len.lookup ?_)
  generalize hid : ("set.__len__" : String) = id0
  wp_delta
  rw [show splitId id0 = some ("set", "__len__") from by subst hid; decide +kernel]
  subst hid
  refine wpAny_bind (wpAny_isInstance (T := "set") (b := true) hT (by rw [isSubtype_type]; kernel_rfl) ?_)
  refine wpAny_ite_split (fun hab => absurd hab (by decide)) (fun _ => ?_)
  refine wpAny_ite_split (fun _ => ?_) (fun hab => absurd (by decide +kernel) hab)
  refine wpAny_bind (wpAny_typeOf hT ?_)
  exact wpAny_pure h
theorem collect_set {a : Addr} {ks : List Int} {R : List Value → Shared → Prop} (hS : SetIs prog w s.heap a (!w.params.followText "set-order") ks) (hh : A.handled = none) (hn : ks.length ≤ sizeLine)
    (h : ∀ (h' : Heap) (tk : Nat) (d' : Drawn) (vs : List Value) (ks' : List Int), s.heap.objs.size < h'.objs.size → (∀ b o, s.heap.get? b = some o → h'.get? b = some o) → IntsAre vs ks' → ks'.Perm ks → R vs { s with heap := h', toks := tk, drawn := d' }) :
    wpAny (model prog w) A (collect (.ref a)) R E s := by
  have hT : s.TypeIs (.ref a) "set" := by obtain ⟨es, ep, t, ho, _⟩ := hS; exact ⟨_, ho, rfl⟩
  have hlt : a < s.heap.objs.size := by obtain ⟨o, ho, _⟩ := hT; exact Heap.lt_size ho
  unfold collect
  refine wpAny_bind (wpAny_runValue (codeAny_builtin entry_proto_collect' ?_))
  rw [Around.under_plainId PySem.F.plain_proto_collect _]
  show wpAny _ A.in1 (newList [] >>= fun l => again (.builtin "list.__iadd__" ⟨[l, .ref a], []⟩)) _ _ s
  refine wpAny_bind (wpAny_newObj_type ?_)
  refine wpAny_pure ⟨plainId_quiet PySem.F.plain_list_iadd _, codeAny_builtin entry_list_iadd' ?_⟩
  rw [Around.under_plainId PySem.F.plain_list_iadd _]
  show wpAny _ A.in1 (Builtin.List.listExtendWith (.ref s.heap.objs.size) (.ref a) (.ref s.heap.objs.size)) _ _ _
  unfold Builtin.List.listExtendWith
  have hT1 : Shared.TypeIs { s with heap := s.heap.push { cls := .type "list", data := .seq ([] : List Value).toArray } } (.ref a) "set" := by
    obtain ⟨o, ho, hc⟩ := hT; exact ⟨o, Heap.get?_push_of_some _ ho, hc⟩
  refine wpAny_bind (wpAny_typeOf (T := "set") hT1 ?_)
  have h1 : Builtin.List.listSameRef (.ref s.heap.objs.size) (.ref a) = false := by simp [Builtin.List.listSameRef, Nat.ne_of_gt hlt]
  have h2 : (Value.type "set" == Value.type "list") = false := by decide
  have h3 : (Value.type "set" == Value.type "tuple") = false := by decide
  simp only [h1, h2, h3, Bool.or_false, Bool.false_eq_true, if_false]
  have hS1 : SetIs prog w (s.heap.push { cls := .type "list", data := .seq ([] : List Value).toArray }) a (!w.params.followText "set-order") ks := hS.at fun o e => Heap.get?_push_of_some _ e
  refine wpAny_bind (set_iter hS1 fun I fp vs ks' St h₁ d₁ hI hp W st hfp hIsz hk => ?_)
  have hszp : (s.heap.push { cls := .type "list", data := .seq ([] : List Value).toArray }).objs.size = s.heap.objs.size + 1 := Heap.size_push ..
  rw [hszp] at hfp hIsz
  have hAcc : h₁.get? s.heap.objs.size = some { cls := .type "list", dict := none, data := .seq #[], slots := #[] } := hk _ _ (Heap.get?_push_size _ rfl)
  have hSf : s.heap.objs.size ∉ fp := fun z => by
    rcases hfp _ z with e | ⟨e, _⟩
    · exact absurd hlt (by rw [← e]; exact Nat.lt_irrefl _)
    · exact absurd e (Nat.not_succ_le_self _)
  have hlen : vs.length = ks.length := by rw [IntsAre.length hI]; exact hp.length_eq
  have hT2 : Shared.TypeIs { s with heap := h₁, drawn := d₁ } (.ref a) "set" := by
    obtain ⟨o, ho, hc⟩ := hT1; exact ⟨o, hk _ _ ho, hc⟩
  refine wpAny_bind (wpAny_holding (hint_set hT2 ?_))
  have fin : ∀ (h₃ : Heap) (c₃ : Nat), St 0 h₃ → (∀ b o, b ≠ s.heap.objs.size → h₁.get? b = some o → h₃.get? b = some o) → h₃.get? s.heap.objs.size = some { cls := .type "list", dict := none, data := .seq #[] c₃, slots := #[] } →
      codeAny (model prog w) A (.builtin "list.extend.loop" ⟨[.ref s.heap.objs.size, .ref I, .ref s.heap.objs.size], []⟩)
        (fun q s' => ∃ (h' : Heap) (tk : Nat) (acc' : Array Value) (c' : Nat), q = .ok (.ret (.ref s.heap.objs.size)) ∧ s' = { s with heap := h', toks := tk, drawn := d₁ } ∧
          (∀ b o, s.heap.get? b = some o → h'.get? b = some o) ∧ h'.get? s.heap.objs.size = some { cls := .type "list", dict := none, data := .seq acc' c', slots := #[] } ∧ acc'.toList = vs)
        { s with heap := h₃, drawn := d₁ } := by
    intro h₃ c₃ st3 hk3 hS3
    refine codeAny_extend_loopS (W A.in1 hh).toS (by omega) s.heap.objs.size hSf (.ref s.heap.objs.size) vs.length 0 _ #[] c₃ rfl (Nat.zero_le _) st3 hS3 (ItemsOf.nil _) fun s' acc' c' hm hS' hacc => ?_
    obtain ⟨h', g', d', tk', os'⟩ := s'
    have eg : g' = s.gens := hm.gens
    have ed : d' = d₁ := hm.drawn
    have eo : os' = s.os := hm.os
    subst eg; subst ed; subst eo
    refine ⟨h', tk', acc', c', rfl, rfl, fun b o e => ?_, hS', ?_⟩
    · have hb : b < s.heap.objs.size := Heap.lt_size e
      refine hm.heap b o ?_ (hk3 b o (Nat.ne_of_lt hb) (hk b o (Heap.get?_push_of_some _ e)))
      simp only [List.mem_cons, List.not_mem_nil, or_false, not_or]
      exact ⟨Nat.ne_of_lt hb, fun z => absurd hIsz (by rw [← z]; exact Nat.not_le_of_lt (Nat.lt_succ_of_lt hb))⟩
    · refine List.ext_getElem? fun i => ?_
      rw [Array.getElem?_toList]
      by_cases hi : i < vs.length
      · have hi' : i < acc'.size := by rw [hacc.1]; exact hi
        rw [Array.getElem?_eq_getElem hi']
        exact (hacc.2 i _ (Array.getElem?_eq_getElem hi')).symm
      · rw [Array.getElem?_eq_none (by rw [hacc.1]; omega), List.getElem?_eq_none (by omega)]
  refine wpAny_ite_split (fun _ => ?_) (fun hab => absurd (by decide +kernel) hab)
  refine wpAny_bind (wpAny_rule ?_)
  refine wpAny_bind ?_
  show wpAny _ _ (updateSeq s.heap.objs.size (·.push .none) >>= fun _ => updateSeq s.heap.objs.size (·.pop)) _ _ _
  refine wpAny_bind (wpAny_updateSeq hAcc rfl ?_)
  have hS₂ := Heap.get?_update_self (Obj.mapSeq (·.push Value.none)) hAcc rfl
  refine wpAny_updateSeq (hz := by seq_fits) hS₂ rfl ?_
  have hS₃ := Heap.get?_update_self (Obj.mapSeq (·.pop)) hS₂ rfl
  have oth : ∀ b o, b ≠ s.heap.objs.size → h₁.get? b = some o → ((h₁.update s.heap.objs.size (Obj.mapSeq (·.push Value.none))).update s.heap.objs.size (Obj.mapSeq (·.pop))).get? b = some o := fun b o hb e =>
    (Heap.get?_update_other _ _ (Ne.symm hb)).trans ((Heap.get?_update_other _ _ (Ne.symm hb)).trans e)
  refine wpAny_pure ⟨plainId_quiet PySem.F.plain_extend_loop _, codeAny_mono (fin _ _ ((W A.in1 hh).frame 0 _ _ st fun b hb o e => oth b o (fun z => hSf (z ▸ hb)) e) oth hS₃) fun q s' x => ?_⟩
  obtain ⟨h', tk, acc', c', rfl, rfl, hk', hS', hacc⟩ := x
  show wpAny _ A (load s.heap.objs.size >>= _) _ _ _
  refine wpAny_bind (wpAny_load hS' ?_)
  refine wpAny_pure ?_
  show R acc'.toList _
  rw [hacc]
  exact h h' tk d₁ vs ks' (Heap.lt_size hS') hk' hI hp
theorem sorted_set {a : Addr} {ks : List Int} {Q : Value → Shared → Prop} (hS : SetIs prog w s.heap a (!w.params.followText "set-order") ks) (hh : A.handled = none) (hn : ks.length < 64)
    (h : ∀ (D : Addr) (h' : Heap) (tk : Nat) (d' : Drawn) (vs : List Value) (ns : List Int) (c : Nat), (∀ b o, s.heap.get? b = some o → h'.get? b = some o) → s.heap.objs.size ≤ D →
      h'.get? D = some { cls := .type "list", data := .seq vs.toArray c } → IntsAre vs ns → ns.Perm ks → ns.Pairwise (· ≤ ·) → Q (.ref D) { s with heap := h', toks := tk, drawn := d' }) :
    wpAny (model prog w) A (call (.builtin "sorted") [.ref a]) Q E s := by
  refine Calls.call_function_entry kind_sorted plain_sorted entry_sorted (args_sorted1 _) ?_
  unfold Builtin.«sorted»
  refine wpAny_bind (m := checkCount "sorted" 1 1 _) (wpAny_pure ?_)
  refine wpAny_bind (collect_set (A := A.in1) hS hh (by rw [sizeLine_eq]; omega) fun h₁ tk d' vs ks' hsz hk hI hp => ?_)
  have hlen : vs.length < 64 := by rw [IntsAre.length hI, hp.length_eq]; exact hn
  refine wpAny_bind (wpAny_newList ?_ (by rw [sizeLine_eq]; omega))
  have hoL : (h₁.push (seqObj "list" vs.toArray 0)).get? h₁.objs.size = some (seqObj "list" vs.toArray 0) := Heap.get?_push_size _ rfl
  have hle : s.heap.objs.size ≤ h₁.objs.size := Nat.le_of_lt hsz
  refine wpAny_bind (wpAny_holding (wpAny_call_entry slot_list_sort ⟨_, hoL, rfl⟩ entry_list_sort (list_sort_tree hoL hI hlen fun out ns' a1 a2 a3 => ⟨_, rfl, ?_⟩) (args_list_sort _)))
  obtain ⟨c, hc⟩ := sortedHeap_at (out := out) hoL
  refine wpAny_pure ⟨_, rfl, h _ _ tk d' out.toList ns' c (fun b o e => ?_) hle (by simpa using hc) a1 (a2.trans hp) a3⟩
  have hb : b < h₁.objs.size := Heap.lt_size (hk b o e)
  rw [sortedHeap_old (Nat.ne_of_lt hb) (by rw [size_push']; exact Nat.lt_succ_of_lt hb)]
  exact Heap.get?_push_of_some _ (hk b o e)
end
end TC
set_option linter.all false
set_option maxRecDepth 100000
namespace TC
open PySem PyProof.Rows
section
variable {prog : Program} {w : World} {A : Around} {E : Value → Shared → Prop} {s : Shared}
end
end TC
set_option linter.all false
set_option maxRecDepth 100000
namespace TC
open PySem PyProof.Rows
open AutoSeq1 (wpAny_loadPart')
section
variable {prog : Program} {w : World} {A : Around} {E : Value → Shared → Prop} {s : Shared}
end
end TC
set_option linter.all false
set_option maxRecDepth 100000
namespace TC
open PySem
section
variable {prog : Program} {w : World} {A : Around} {E : Value → Shared → Prop} {s : Shared}
theorem nextOf_tup {it t : Addr} {i : Nat} {items : Array Value} {x : Value} {Q : Value → Shared → Prop} (hit : s.heap.IsTupleIter it t i) (ht : s.heap.IsTuple t items) (hx : items[i]? = some x)
    (hQ : ∀ h', h'.IsTupleIter it t (i + 1) → Heap.SameBut it s.heap h' → Q x { s with heap := h' }) : wpAny (model prog w) A (Builtin.SmallTypes.nextOf (.ref it)) Q E s := by
  obtain ⟨o, ho, hc, hd⟩ := id hit
  obtain ⟨ol, hol, _, nl, hdl⟩ := ht
  unfold Builtin.SmallTypes.nextOf
  refine wpAny_bind (wpAny_callSpecial?_slot (name := Str.ofString "__next__") hit.typeIs F.slot_tuple_iterator_next
    (wpAny_call_entry F.slot_tuple_iterator_next hit.typeIs F.entry_tuple_iterator_next ?_ (F.args_tuple_iterator_next_1 _)))
  show wpAny _ _ (field (.ref it) 0 >>= _) _ _ s
  refine wpAny_bind (wpAny_field ho hd (x := .ref t) rfl ?_)
  show wpAny _ _ (if (Value.ref t == Value.none) = true then _ else _) _ _ s
  rw [if_neg (show ¬ ((Value.ref t == Value.none) = true) from Bool.false_ne_true)]
  show wpAny _ _ (field (.ref it) 1 >>= _) _ _ s
  refine wpAny_bind (wpAny_field ho hd (x := .int i 0) rfl ?_)
  show wpAny _ _ (seqItems? (.ref t) >>= _) _ _ s
  refine wpAny_bind (wpAny_seqItems hol hdl ?_)
  simp only [Int.toNat_natCast, hx]
  refine wpAny_bind (wpAny_setField ho hd (by simp) (wpAny_pure ⟨x, rfl, wpAny_pure (hQ _ ?_ (Heap.SameBut.update ..))⟩))
  exact ⟨_, Heap.get?_update_self _ ho (Obj.isFreed_of_fields (Obj.data_mapFields hd _)), (Obj.cls_mapFields ..).trans hc, by
    rw [Obj.data_mapFields hd]; simp [rawInt]⟩
theorem nextOf_tup_end {it t : Addr} {i : Nat} {items : Array Value} {Q : Value → Shared → Prop} (hh : A.handled = none) (hit : s.heap.IsTupleIter it t i) (ht : s.heap.IsTuple t items) (hx : items[i]? = none)
    (hE : ∀ h' e, Heap.ExtBut it s.heap h' → (∃ o, h'.get? e = some o ∧ o.cls = .type "StopIteration") → E (.ref e) { s with heap := h' }) : wpAny (model prog w) A (Builtin.SmallTypes.nextOf (.ref it)) Q E s := by
  obtain ⟨o, ho, hc, hd⟩ := id hit
  obtain ⟨ol, hol, _, nl, hdl⟩ := ht
  unfold Builtin.SmallTypes.nextOf
  refine wpAny_bind (wpAny_callSpecial?_slot (name := Str.ofString "__next__") hit.typeIs F.slot_tuple_iterator_next
    (wpAny_call_entry F.slot_tuple_iterator_next hit.typeIs F.entry_tuple_iterator_next ?_ (F.args_tuple_iterator_next_1 _)))
  show wpAny _ _ (field (.ref it) 0 >>= _) _ _ s
  refine wpAny_bind (wpAny_field ho hd (x := .ref t) rfl ?_)
  show wpAny _ _ (if (Value.ref t == Value.none) = true then _ else _) _ _ s
  rw [if_neg (show ¬ ((Value.ref t == Value.none) = true) from Bool.false_ne_true)]
  show wpAny _ _ (field (.ref it) 1 >>= _) _ _ s
  refine wpAny_bind (wpAny_field ho hd (x := .int i 0) rfl ?_)
  show wpAny _ _ (seqItems? (.ref t) >>= _) _ _ s
  refine wpAny_bind (wpAny_seqItems hol hdl ?_)
  simp only [Int.toNat_natCast, hx]
  refine wpAny_bind (wpAny_rule (wpAny_bind (wpAny_setField ho hd (by simp) ?_)))
  show wpAny _ _ (newExc (.type "StopIteration") [] >>= _) _ _ _
  refine wpAny_bind ?_
  simp only [newExc, newTuple]
  refine wpAny_bind (wpAny_newObj_type ?_ (by size_fits))
  refine wpAny_bind (m := firstArgMember _ _) (wpAny_of_eq (a := Value.none) (by first | rfl | (simp only [firstArgMember]; rfl)) ?_)
  refine wpAny_newObj_type ?_ (by size_fits)
  simp only [raiseNew]
  refine wpAny_bind (wpAny_handled ?_)
  first | rw [show A.in1.handled = none from hh] | rw [hh]
  refine wpAny_bind (wpAny_pure (wpAny_throw ?_))
  exact hE _ _ (((Heap.SameBut.update ..).extBut.push _).push _) ⟨_, Heap.get?_push_size _ rfl, rfl⟩
structure ZA (z TI TO i1 i2 : Addr) : Prop where
  TIz : TI ≠ z
  TOz : TO ≠ z
  i1z : i1 ≠ z
  i2z : i2 ≠ z
  TITO : TI ≠ TO
  TIi1 : TI ≠ i1
  TIi2 : TI ≠ i2
  TOi1 : TO ≠ i1
  TOi2 : TO ≠ i2
  i12 : i1 ≠ i2
theorem zip_item {z TI TO i1 i2 l1 l2 : Addr} {k : Nat} {xs ys : Array Value} {x y a b : Value} {Q : Option Value → Shared → Prop} (D : ZA z TI TO i1 i2)
    (hz : IsZip s.heap z TI TO .none) (hTI : IsPair s.heap TI (.ref i1) (.ref i2)) (hTO : IsPair s.heap TO a b) (h1 : s.heap.IsTupleIter i1 l1 k) (h2 : s.heap.IsTupleIter i2 l2 k)
    (hl1 : s.heap.IsTuple l1 xs) (hl2 : s.heap.IsTuple l2 ys) (n1 : l1 ≠ z ∧ l1 ≠ TO ∧ l1 ≠ i1 ∧ l1 ≠ i2) (n2 : l2 ≠ z ∧ l2 ≠ TO ∧ l2 ≠ i1 ∧ l2 ≠ i2) (hx : xs[k]? = some x) (hy : ys[k]? = some y)
    (hQ : ∀ h', IsZip h' z TI TO (rawInt s.heap.objs.size) → IsPair h' TI (.ref i1) (.ref i2) → IsPair h' TO x y → h'.IsTupleIter i1 l1 (k + 1) → h'.IsTupleIter i2 l2 (k + 1) → IsPair h' s.heap.objs.size x y →
      (∀ c o, c ≠ z → c ≠ TO → c ≠ i1 → c ≠ i2 → s.heap.get? c = some o → h'.get? c = some o) → Q (some (.ref s.heap.objs.size)) { s with heap := h' }) :
    wpAny (model prog w) A (pyNext (.ref z)) Q E s := by
  have hT : s.TypeIs (.ref z) "zip" := ⟨_, hz, rfl⟩
  unfold pyNext
  refine wpAny_bind (wpAny_attempt (wpAny_callSpecial?_slot (name := Str.ofString "__next__") hT F.slot_zip_next (wpAny_call_entry F.slot_zip_next hT F.entry_zip_next ?_ (F.args_zip_next_1 _))))
  show wpAny _ _ (field (.ref z) 2 >>= _) _ _ _
  refine wpAny_bind (wpAny_field hz rfl (x := .bool false) rfl ?_)
  show wpAny _ _ (field (.ref z) 3 >>= _) _ _ _
  refine wpAny_bind (wpAny_field hz rfl (x := .ref TI) rfl ?_)
  refine wpAny_bind (wpAny_seqItems hTI rfl ?_)
  show wpAny _ _ (Builtin.SmallTypes.ownedTupleIsFree (.ref z) >>= _) _ _ _
  refine wpAny_bind ?_
  unfold Builtin.SmallTypes.ownedTupleIsFree
  refine wpAny_bind (wpAny_field hz rfl (x := .none) rfl (wpAny_pure ?_))
  simp only [if_true]
  refine wpAny_bind (wpAny_rule ?_)
  refine wpAny_bind (wpAny_field hz rfl (x := .ref TO) rfl ?_)
  refine wpAny_bind (wpAny_setField_rec hz (by simp) fun h₁ hz₁ hs₁ => ?_)
  replace hz₁ : IsZip h₁ z TI TO .ellipsis := hz₁
  refine wpAny_bind ?_
  simp only [List.zipIdx_cons, List.zipIdx_nil, List.forIn_cons, List.forIn_nil]
  refine wpAny_bind (wpAny_bind (wpAny_onRaise ?_))
  show wpAny _ _ (Builtin.SmallTypes.nextOf (.ref i1) >>= _) _ _ _
  refine wpAny_bind (nextOf_tup (h1.extBut hs₁.extBut D.i1z) (hl1.extBut hs₁.extBut n1.1) hx fun h₂ h1₂ hs₂ => wpAny_pure ?_)
  have hTO₂ : IsPair h₂ TO a b := hs₂.extBut _ _ D.TOi1 (hs₁.extBut _ _ D.TOz hTO)
  refine wpAny_bind (wpAny_seqItems hTO₂ rfl ?_)
  refine wpAny_bind (wpAny_updateSeq_pair hTO₂ fun h₃ hTO₃ hs₃ => ?_)
  replace hTO₃ : IsPair h₃ TO x b := hTO₃
  refine wpAny_bind (wpAny_letGo (wpAny_pure ?_))
  refine wpAny_bind (wpAny_bind (wpAny_onRaise ?_))
  show wpAny _ _ (Builtin.SmallTypes.nextOf (.ref i2) >>= _) _ _ _
  refine wpAny_bind (nextOf_tup (((h2.extBut hs₁.extBut D.i2z).extBut hs₂.extBut D.i12.symm).extBut hs₃.extBut D.TOi2.symm)
    (((hl2.extBut hs₁.extBut n2.1).extBut hs₂.extBut n2.2.2.1).extBut hs₃.extBut n2.2.1) hy fun h₄ h2₄ hs₄ => wpAny_pure ?_)
  have hTO₄ : IsPair h₄ TO x b := hs₄.extBut _ _ D.TOi2 hTO₃
  refine wpAny_bind (wpAny_seqItems hTO₄ rfl ?_)
  refine wpAny_bind (wpAny_updateSeq_pair hTO₄ fun h₅ hTO₅ hs₅ => ?_)
  replace hTO₅ : IsPair h₅ TO x y := hTO₅
  refine wpAny_bind (wpAny_letGo (wpAny_pure (wpAny_pure ?_)))
  refine wpAny_bind (wpAny_seqItems hTO₅ rfl ?_)
  refine wpAny_bind (wpAny_newTuple ?_)
  have hsz : h₅.objs.size = s.heap.objs.size := by rw [hs₅.1, hs₄.1, hs₃.1, hs₂.1, hs₁.1]
  have hz₅ : IsZip h₅ z TI TO .ellipsis := hs₅.extBut _ _ D.TOz.symm (hs₄.extBut _ _ D.i2z.symm (hs₃.extBut _ _ D.TOz.symm (hs₂.extBut _ _ D.i1z.symm hz₁)))
  have hk₅ : ∀ c o, c ≠ z → c ≠ TO → c ≠ i1 → c ≠ i2 → s.heap.get? c = some o → h₅.get? c = some o := fun c o c1 c2 c3 c4 e =>
    hs₅.extBut _ _ c2 (hs₄.extBut _ _ c4 (hs₃.extBut _ _ c2 (hs₂.extBut _ _ c3 (hs₁.extBut _ _ c1 e))))
  have h1₅ : h₅.IsTupleIter i1 l1 (k + 1) := ((h1₂.extBut hs₃.extBut D.TOi1.symm).extBut hs₄.extBut D.i12).extBut hs₅.extBut D.TOi1.symm
  have h2₅ : h₅.IsTupleIter i2 l2 (k + 1) := h2₄.extBut hs₅.extBut D.TOi2.symm
  have hzlt : z < h₅.objs.size := Heap.lt_size hz₅
  show wpAny _ _ (Builtin.SmallTypes.ownedTupleHandOut (.ref z) (.ref h₅.objs.size) >>= _) _ _ _
  refine wpAny_bind ?_
  unfold Builtin.SmallTypes.ownedTupleHandOut
  have hz₆ : IsZip (h₅.push { cls := .type "tuple", data := .seq #[x, y] }) z TI TO .ellipsis := Heap.get?_push_of_some _ hz₅
  refine wpAny_bind (wpAny_setField_rec hz₆ (by simp) fun h₇ hz₇ hs₇ => ?_)
  replace hz₇ : IsZip h₇ z TI TO (rawInt h₅.objs.size) := hz₇
  refine wpAny_setField_rec hz₇ (by simp) fun h₈ hz₈ hs₈ => ?_
  replace hz₈ : IsZip h₈ z TI TO (rawInt h₅.objs.size) := hz₈
  have up : ∀ c o, c ≠ z → h₅.get? c = some o → h₈.get? c = some o := fun c o c1 e => hs₈.extBut _ _ c1 (hs₇.extBut _ _ c1 (Heap.get?_push_of_some _ e))
  have hT₈ : IsPair h₈ h₅.objs.size x y := hs₈.extBut _ _ (Nat.ne_of_gt hzlt) (hs₇.extBut _ _ (Nat.ne_of_gt hzlt) (Heap.get?_push_size _ rfl))
  rw [hsz] at hz₈ hT₈
  refine wpAny_pure ⟨_, rfl, ?_⟩
  show wpAny _ _ (pure (some (Value.ref h₅.objs.size))) _ _ _
  rw [hsz]
  exact wpAny_pure (hQ h₈ hz₈ (up _ _ D.TIz (hk₅ _ _ D.TIz D.TITO D.TIi1 D.TIi2 hTI)) (up _ _ D.TOz hTO₅) (by obtain ⟨o, e, r⟩ := h1₅; exact ⟨o, up _ o D.i1z e, r⟩) (by obtain ⟨o, e, r⟩ := h2₅; exact ⟨o, up _ o D.i2z e, r⟩) hT₈ fun c o c1 c2 c3 c4 e => up c o c1 (hk₅ c o c1 c2 c3 c4 e))
theorem zip_end {z TI TO i1 i2 l1 l2 : Addr} {k : Nat} {xs ys : Array Value} {a b : Value} {Q : Option Value → Shared → Prop} (hh : A.handled = none) (D : ZA z TI TO i1 i2)
    (hz : IsZip s.heap z TI TO .none) (hTI : IsPair s.heap TI (.ref i1) (.ref i2)) (hTO : IsPair s.heap TO a b) (h1 : s.heap.IsTupleIter i1 l1 k) (h2 : s.heap.IsTupleIter i2 l2 k)
    (hl1 : s.heap.IsTuple l1 xs) (hl2 : s.heap.IsTuple l2 ys) (n1 : l1 ≠ z ∧ l1 ≠ TO ∧ l1 ≠ i1 ∧ l1 ≠ i2) (n2 : l2 ≠ z ∧ l2 ≠ TO ∧ l2 ≠ i1 ∧ l2 ≠ i2) (hend : xs[k]? = none ∨ ys[k]? = none)
    (hQ : ∀ h', (∀ c o, c ≠ z → c ≠ TO → c ≠ i1 → c ≠ i2 → s.heap.get? c = some o → h'.get? c = some o) → Q none { s with heap := h' }) :
    wpAny (model prog w) A (pyNext (.ref z)) Q E s := by
  have hT : s.TypeIs (.ref z) "zip" := ⟨_, hz, rfl⟩
  have stop : ∀ (h' : Heap) (e : Addr), (∀ c o, c ≠ z → c ≠ TO → c ≠ i1 → c ≠ i2 → s.heap.get? c = some o → h'.get? c = some o) → (∃ o, h'.get? e = some o ∧ o.cls = .type "StopIteration") →
      wpAny (model prog w) A (do if ← isInstance (.ref e) (.type "StopIteration") then pure none else throw (.ref e) : Sem (Option Value)) Q E { s with heap := h' } := fun h' e hk he => by
    obtain ⟨o, ho, hc⟩ := he
    refine wpAny_bind (wpAny_isInstance (T := "StopIteration") (b := true) ⟨o, ho, hc⟩ isSubtype_stop ?_)
    exact wpAny_pure (hQ _ hk)
  unfold pyNext
  refine wpAny_bind (wpAny_attempt (wpAny_callSpecial?_slot (name := Str.ofString "__next__") hT F.slot_zip_next (wpAny_call_entry F.slot_zip_next hT F.entry_zip_next ?_ (F.args_zip_next_1 _))))
  show wpAny _ _ (field (.ref z) 2 >>= _) _ _ _
  refine wpAny_bind (wpAny_field hz rfl (x := .bool false) rfl ?_)
  show wpAny _ _ (field (.ref z) 3 >>= _) _ _ _
  refine wpAny_bind (wpAny_field hz rfl (x := .ref TI) rfl ?_)
  refine wpAny_bind (wpAny_seqItems hTI rfl ?_)
  show wpAny _ _ (Builtin.SmallTypes.ownedTupleIsFree (.ref z) >>= _) _ _ _
  refine wpAny_bind ?_
  unfold Builtin.SmallTypes.ownedTupleIsFree
  refine wpAny_bind (wpAny_field hz rfl (x := .none) rfl (wpAny_pure ?_))
  simp only [if_true]
  refine wpAny_bind (wpAny_rule ?_)
  refine wpAny_bind (wpAny_field hz rfl (x := .ref TO) rfl ?_)
  refine wpAny_bind (wpAny_setField_rec hz (by simp) fun h₁ hz₁ hs₁ => ?_)
  replace hz₁ : IsZip h₁ z TI TO .ellipsis := hz₁
  refine wpAny_bind ?_
  simp only [List.zipIdx_cons, List.zipIdx_nil, List.forIn_cons, List.forIn_nil]
  refine wpAny_bind (wpAny_bind (wpAny_onRaise ?_))
  show wpAny _ _ (Builtin.SmallTypes.nextOf (.ref i1) >>= _) _ _ _
  cases hx : xs[k]? with
  | none =>
    refine wpAny_bind (nextOf_tup_end hh (h1.extBut hs₁.extBut D.i1z) (hl1.extBut hs₁.extBut n1.1) hx fun h₂ e hs₂ he => ?_)
    obtain ⟨oe, hoe, hce⟩ := he
    have hz₂ : IsZip h₂ z TI TO .ellipsis := hs₂ _ _ D.i1z.symm hz₁
    have hez : e ≠ z := fun x => by subst x; rw [hz₂] at hoe; cases hoe; simp at hce
    refine wpAny_setField_rec hz₂ (by simp) fun h₃ _ hs₃ => stop h₃ e (fun c o c1 _ c3 _ x => hs₃.extBut _ _ c1 (hs₂ _ _ c3 (hs₁.extBut _ _ c1 x))) ⟨oe, hs₃.extBut _ _ hez hoe, hce⟩
  | some x =>
    have hy : ys[k]? = none := by rcases hend with h | h; rw [hx] at h; cases h; exact h
    refine wpAny_bind (nextOf_tup (h1.extBut hs₁.extBut D.i1z) (hl1.extBut hs₁.extBut n1.1) hx fun h₂ h1₂ hs₂ => wpAny_pure ?_)
    have hTO₂ : IsPair h₂ TO a b := hs₂.extBut _ _ D.TOi1 (hs₁.extBut _ _ D.TOz hTO)
    refine wpAny_bind (wpAny_seqItems hTO₂ rfl ?_)
    refine wpAny_bind (wpAny_updateSeq_pair hTO₂ fun h₃ hTO₃ hs₃ => ?_)
    refine wpAny_bind (wpAny_letGo (wpAny_pure ?_))
    refine wpAny_bind (wpAny_bind (wpAny_onRaise ?_))
    show wpAny _ _ (Builtin.SmallTypes.nextOf (.ref i2) >>= _) _ _ _
    refine wpAny_bind (nextOf_tup_end hh (((h2.extBut hs₁.extBut D.i2z).extBut hs₂.extBut D.i12.symm).extBut hs₃.extBut D.TOi2.symm)
      (((hl2.extBut hs₁.extBut n2.1).extBut hs₂.extBut n2.2.2.1).extBut hs₃.extBut n2.2.1) hy fun h₄ e hs₄ he => ?_)
    obtain ⟨oe, hoe, hce⟩ := he
    have hz₄ : IsZip h₄ z TI TO .ellipsis := hs₄ _ _ D.i2z.symm (hs₃.extBut _ _ D.TOz.symm (hs₂.extBut _ _ D.i1z.symm hz₁))
    have hez : e ≠ z := fun x => by subst x; rw [hz₄] at hoe; cases hoe; simp at hce
    refine wpAny_setField_rec hz₄ (by simp) fun h₅ _ hs₅ => stop h₅ e (fun c o c1 c2 c3 c4 x => hs₅.extBut _ _ c1 (hs₄ _ _ c4 (hs₃.extBut _ _ c2 (hs₂.extBut _ _ c3 (hs₁.extBut _ _ c1 x))))) ⟨oe, hs₅.extBut _ _ hez hoe, hce⟩
end
abbrev zH1 (h : Heap) (l1 : Addr) : Heap := h.push { cls := .type "tuple_iterator", data := .fields #[.ref l1, .int 0 0] }
abbrev zH2 (h : Heap) (l1 l2 : Addr) : Heap := (zH1 h l1).push { cls := .type "tuple_iterator", data := .fields #[.ref l2, .int 0 0] }
abbrev zH3 (h : Heap) (l1 l2 : Addr) : Heap := (zH2 h l1 l2).push { cls := .type "tuple", data := .seq #[.ref h.objs.size, .ref (zH1 h l1).objs.size] }
abbrev zH4 (h : Heap) (l1 l2 : Addr) : Heap := (zH3 h l1 l2).push { cls := .type "tuple", data := .seq #[.none, .none] }
abbrev zH5 (h : Heap) (l1 l2 : Addr) : Heap := (zH4 h l1 l2).push { cls := .type "zip", data := .fields #[.none, .bool false, .bool false, .ref (zH2 h l1 l2).objs.size, .ref (zH3 h l1 l2).objs.size] }
theorem meets_zipT (l1 l2 : Addr) (xs ys : Array Value) :
    Meets (Builtin.«zip.__new__» ⟨[.type "zip", .ref l1, .ref l2], []⟩) (fun _ R s => s.heap.IsTuple l1 xs ∧ s.heap.IsTuple l2 ys ∧
      R (.ok (.ret (.ref (zH4 s.heap l1 l2).objs.size))) { s with heap := zH5 s.heap l1 l2 }) :=
  .of_wp fun prog w A R s h => by
    obtain ⟨hp, g, d, tk, os⟩ := s; obtain ⟨hl1, hl2, h⟩ := h
    have hsub := sub_zip
    have hL1 : Heap.IsTuple (Shared.heap ⟨hp, g, d, tk, os⟩) l1 xs := hl1
    have hL2 : Heap.IsTuple (Shared.heap ⟨hp.push { cls := .type "tuple_iterator", data := .fields #[.ref l1, .int 0 0] }, g, d, tk, os⟩) l2 ys := Heap.IsTuple.push hl2 _
    wp_walk using wpAny_pyIter_tuple hL1, wpAny_pyIter_tuple hL2
    exact ⟨_, rfl, h⟩
section
variable {prog : Program} {w : World} {A : Around} {E : Value → Shared → Prop} {s : Shared}
theorem call_zipT {l1 l2 : Addr} {xs ys : Array Value} {Q : Value → Shared → Prop} (hl1 : s.heap.IsTuple l1 xs) (hl2 : s.heap.IsTuple l2 ys)
    (h : ∀ h', IsZip h' (s.heap.objs.size + 4) (s.heap.objs.size + 2) (s.heap.objs.size + 3) .none → IsPair h' (s.heap.objs.size + 2) (.ref s.heap.objs.size) (.ref (s.heap.objs.size + 1)) →
      IsPair h' (s.heap.objs.size + 3) .none .none → h'.IsTupleIter s.heap.objs.size l1 0 → h'.IsTupleIter (s.heap.objs.size + 1) l2 0 →
      (∀ c o, s.heap.get? c = some o → h'.get? c = some o) → Q (.ref (s.heap.objs.size + 4)) { s with heap := h' }) :
    wpAny (model prog w) A (call (.type "zip") [.ref l1, .ref l2]) Q E s := by
  refine callType_new F.called_zip (by decide) (F.typeCall_zip_2 _ _) (F.newCall_zip_2 _ _) (fun obj => F.args_object_init_3 obj _ _) F.entry_zip_new
    (meets_zipT l1 l2 xs ys) ⟨hl1, hl2, ?_⟩
  have z1 : (zH1 s.heap l1).objs.size = s.heap.objs.size + 1 := Heap.size_push ..
  have z2 : (zH2 s.heap l1 l2).objs.size = s.heap.objs.size + 2 := by rw [Heap.size_push, z1]
  have z3 : (zH3 s.heap l1 l2).objs.size = s.heap.objs.size + 3 := by rw [Heap.size_push, z2]
  have z4 : (zH4 s.heap l1 l2).objs.size = s.heap.objs.size + 4 := by rw [Heap.size_push, z3]
  have g5 : (zH5 s.heap l1 l2).get? (zH4 s.heap l1 l2).objs.size = some _ := Heap.get?_push_size _ rfl
  have g4 : (zH5 s.heap l1 l2).get? (zH3 s.heap l1 l2).objs.size = some _ := Heap.get?_push_of_some _ (Heap.get?_push_size _ rfl)
  have g3 : (zH5 s.heap l1 l2).get? (zH2 s.heap l1 l2).objs.size = some _ := Heap.get?_push_of_some _ (Heap.get?_push_of_some _ (Heap.get?_push_size _ rfl))
  have g2 : (zH5 s.heap l1 l2).get? (zH1 s.heap l1).objs.size = some _ := Heap.get?_push_of_some _ (Heap.get?_push_of_some _ (Heap.get?_push_of_some _ (Heap.get?_push_size _ rfl)))
  have g1 : (zH5 s.heap l1 l2).get? s.heap.objs.size = some _ := Heap.get?_push_of_some _ (Heap.get?_push_of_some _ (Heap.get?_push_of_some _ (Heap.get?_push_of_some _ (Heap.get?_push_size _ rfl))))
  show _ ∧ _
  rw [z2, z3, z4] at g5
  rw [z1, z2] at g3
  rw [z3] at g4
  rw [z1] at g2
  rw [z4]
  exact ⟨⟨_, g5, rfl⟩, h _ g5 g3 g4 ⟨_, g1, rfl, rfl⟩ ⟨_, g2, rfl, rfl⟩ fun c o x =>
    Heap.get?_push_of_some _ (Heap.get?_push_of_some _ (Heap.get?_push_of_some _ (Heap.get?_push_of_some _ (Heap.get?_push_of_some _ x))))⟩
end
end TC
set_option linter.all false
namespace TM
structure SysW (sys : List Int) : Prop where
  one : sys[0]? = some 1
  pos : ∀ c ∈ sys, 1 ≤ c ∧ c ≤ 1000
  rise : sys.Pairwise (· < ·)
  len : sys.length ≤ 100
theorem SysW.mem1 {sys : List Int} (h : SysW sys) : (1 : Int) ∈ sys := List.mem_of_getElem? h.one
theorem SysW.ne {sys : List Int} (h : SysW sys) : 1 ≤ sys.length := by
  have := h.one
  cases sys with
  | nil => simp at this
  | cons a r => simp
structure IsSys (sys : List Int) : Prop where
  one : sys[0]? = some 1
  pos : ∀ c ∈ sys, 1 ≤ c ∧ c ≤ 200
  rise : sys.Pairwise (· < ·)
  len : sys.length ≤ 8
theorem IsSys.w {sys : List Int} (h : IsSys sys) : SysW sys := ⟨h.one, fun c hc => ⟨(h.pos c hc).1, by have := (h.pos c hc).2; omega⟩, h.rise, by have := h.len; omega⟩
instance {sys : List Int} : CoeOut (IsSys sys) (SysW sys) := ⟨IsSys.w⟩
theorem IsSys.mem1 {sys : List Int} (h : IsSys sys) : (1 : Int) ∈ sys := List.mem_of_getElem? h.one
theorem IsSys.ne {sys : List Int} (h : IsSys sys) : 1 ≤ sys.length := by
  have := h.one
  cases sys with
  | nil => simp at this
  | cons a r => simp
def minL : List Int → Int
  | [] => 0
  | a :: r => r.foldl min a
def maxL : List Int → Int
  | [] => 0
  | a :: r => r.foldl max a
theorem foldl_min_le : ∀ (r : List Int) (a : Int), r.foldl min a ≤ a ∧ ∀ z ∈ r, r.foldl min a ≤ z
  | [], a => ⟨Int.le_refl _, fun _ h => nomatch h⟩
  | b :: r, a => by
    obtain ⟨h1, h2⟩ := foldl_min_le r (min a b)
    refine ⟨Int.le_trans h1 (Int.min_le_left ..), fun z hz => ?_⟩
    rcases List.mem_cons.mp hz with rfl | hz
    · exact Int.le_trans h1 (Int.min_le_right ..)
    · exact h2 z hz
theorem foldl_min_mem : ∀ (r : List Int) (a : Int), r.foldl min a = a ∨ r.foldl min a ∈ r
  | [], a => .inl rfl
  | b :: r, a => by
    rcases foldl_min_mem r (min a b) with h | h
    · rcases Int.le_total a b with hab | hab
      · rw [Int.min_eq_left hab] at h; exact .inl (by simpa [Int.min_eq_left hab] using h)
      · rw [Int.min_eq_right hab] at h
        refine .inr ?_
        show r.foldl min (min a b) ∈ b :: r
        rw [Int.min_eq_right hab, h]; exact List.mem_cons_self
    · exact .inr (List.mem_cons_of_mem _ h)
theorem foldl_max_le : ∀ (r : List Int) (a : Int), a ≤ r.foldl max a ∧ ∀ z ∈ r, z ≤ r.foldl max a
  | [], a => ⟨Int.le_refl _, fun _ h => nomatch h⟩
  | b :: r, a => by
    obtain ⟨h1, h2⟩ := foldl_max_le r (max a b)
    refine ⟨Int.le_trans (Int.le_max_left ..) h1, fun z hz => ?_⟩
    rcases List.mem_cons.mp hz with rfl | hz
    · exact Int.le_trans (Int.le_max_right ..) h1
    · exact h2 z hz
theorem foldl_max_mem : ∀ (r : List Int) (a : Int), r.foldl max a = a ∨ r.foldl max a ∈ r
  | [], a => .inl rfl
  | b :: r, a => by
    rcases foldl_max_mem r (max a b) with h | h
    · rcases Int.le_total a b with hab | hab
      · refine .inr ?_
        show r.foldl max (max a b) ∈ b :: r
        rw [Int.max_eq_right hab] at h
        rw [Int.max_eq_right hab, h]; exact List.mem_cons_self
      · rw [Int.max_eq_left hab] at h; exact .inl (by simpa [Int.max_eq_left hab] using h)
    · exact .inr (List.mem_cons_of_mem _ h)
theorem minL_le {l : List Int} {z : Int} (h : z ∈ l) : minL l ≤ z := by
  cases l with
  | nil => cases h
  | cons a r =>
    rcases List.mem_cons.mp h with rfl | h
    · exact (foldl_min_le r _).1
    · exact (foldl_min_le r a).2 z h
theorem minL_mem {l : List Int} (h : l ≠ []) : minL l ∈ l := by
  cases l with
  | nil => exact absurd rfl h
  | cons a r =>
    rcases foldl_min_mem r a with e | e
    · show r.foldl min a ∈ a :: r; rw [e]; exact List.mem_cons_self
    · exact List.mem_cons_of_mem _ e
theorem maxL_ge {l : List Int} {z : Int} (h : z ∈ l) : z ≤ maxL l := by
  cases l with
  | nil => cases h
  | cons a r =>
    rcases List.mem_cons.mp h with rfl | h
    · exact (foldl_max_le r _).1
    · exact (foldl_max_le r a).2 z h
theorem maxL_mem {l : List Int} (h : l ≠ []) : maxL l ∈ l := by
  cases l with
  | nil => exact absurd rfl h
  | cons a r =>
    rcases foldl_max_mem r a with e | e
    · show r.foldl max a ∈ a :: r; rw [e]; exact List.mem_cons_self
    · exact List.mem_cons_of_mem _ e
theorem minL_eq {l : List Int} {m : Int} (h : m ∈ l) (h' : ∀ z ∈ l, m ≤ z) : minL l = m :=
  Int.le_antisymm (minL_le h) (h' _ (minL_mem (fun e => by rw [e] at h; cases h)))
def nextFew (sys : List Int) (t : List Int) (n : Nat) : Int := 1 + minL ((sys.filter fun c => decide (c ≤ (n : Int))).map fun c => t.getD ((n : Int) - c).toNat 0)
def fewRow (sys : List Int) : Nat → List Int
  | 0 => [0]
  | n + 1 => fewRow sys n ++ [nextFew sys (fewRow sys n) (n + 1)]
theorem fewRow_length (sys : List Int) : ∀ n, (fewRow sys n).length = n + 1
  | 0 => rfl
  | n + 1 => by rw [fewRow, List.length_append, fewRow_length sys n]; rfl
def few (sys : List Int) (n : Nat) : Int := (fewRow sys n).getD n 0
theorem fewRow_get (sys : List Int) : ∀ (m n : Nat), n ≤ m → (fewRow sys m).getD n 0 = few sys n
  | 0, n, h => by
    have : n = 0 := by omega
    subst this; rfl
  | m + 1, n, h => by
    rcases Nat.lt_or_ge n (m + 1) with hlt | hge
    · have ih := fewRow_get sys m n (by omega)
      rw [fewRow, List.getD_eq_getElem?_getD, List.getElem?_append_left (by rw [fewRow_length]; exact hlt), ← List.getD_eq_getElem?_getD]
      exact ih
    · have : n = m + 1 := by omega
      subst this; rfl
theorem few_succ (sys : List Int) (hp : ∀ c ∈ sys, 1 ≤ c) (n : Nat) : few sys (n + 1) = 1 + minL ((sys.filter fun c => decide (c ≤ ((n + 1 : Nat) : Int))).map fun c => few sys (((n + 1 : Nat) : Int) - c).toNat) := by
  have e : few sys (n + 1) = nextFew sys (fewRow sys n) (n + 1) := by
    unfold few
    rw [fewRow, List.getD_eq_getElem?_getD, List.getElem?_append_right (by rw [fewRow_length]; omega), fewRow_length]
    simp
  rw [e]
  unfold nextFew
  congr 2
  refine List.map_congr_left fun c hc => ?_
  have hc' := List.mem_filter.mp hc
  have h1 := hp c hc'.1
  have h2 : c ≤ ((n + 1 : Nat) : Int) := by simpa using hc'.2
  exact fewRow_get sys n _ (by omega)
def fw (sys : List Int) (n : Int) : Int := few sys n.toNat
section
variable {sys : List Int} (S : SysW sys)
include S
theorem fw_zero : fw sys 0 = 0 := rfl
theorem fw_le {n c : Int} (hc : c ∈ sys) (hn : c ≤ n) : fw sys n ≤ 1 + fw sys (n - c) := by
  have h1 := (S.pos c hc).1
  obtain ⟨m, rfl⟩ : ∃ m : Nat, n = ((m + 1 : Nat) : Int) := ⟨n.toNat - 1, by omega⟩
  show few sys ((m + 1 : Nat) : Int).toNat ≤ _
  rw [Int.toNat_natCast, few_succ sys (fun c h => (S.pos c h).1) m]
  have := minL_le (l := (sys.filter fun c => decide (c ≤ ((m + 1 : Nat) : Int))).map fun c => few sys (((m + 1 : Nat) : Int) - c).toNat) (z := few sys (((m + 1 : Nat) : Int) - c).toNat)
    (List.mem_map.mpr ⟨c, List.mem_filter.mpr ⟨hc, decide_eq_true hn⟩, rfl⟩)
  show 1 + _ ≤ 1 + few sys (((m + 1 : Nat) : Int) - c).toNat
  omega
theorem fw_ex {n : Int} (hn : 1 ≤ n) : ∃ c ∈ sys, c ≤ n ∧ fw sys n = 1 + fw sys (n - c) := by
  obtain ⟨m, rfl⟩ : ∃ m : Nat, n = ((m + 1 : Nat) : Int) := ⟨n.toNat - 1, by omega⟩
  have hne : ((sys.filter fun c => decide (c ≤ ((m + 1 : Nat) : Int))).map fun c => few sys (((m + 1 : Nat) : Int) - c).toNat) ≠ [] := by
    intro e
    have : (1 : Int) ∈ sys.filter fun c => decide (c ≤ ((m + 1 : Nat) : Int)) := List.mem_filter.mpr ⟨S.mem1, decide_eq_true hn⟩
    rw [List.map_eq_nil_iff] at e
    rw [e] at this; cases this
  obtain ⟨c, hc, e⟩ := List.mem_map.mp (minL_mem hne)
  have hc' := List.mem_filter.mp hc
  refine ⟨c, hc'.1, by simpa using hc'.2, ?_⟩
  show few sys ((m + 1 : Nat) : Int).toNat = 1 + few sys (((m + 1 : Nat) : Int) - c).toNat
  rw [Int.toNat_natCast, few_succ sys (fun c h => (S.pos c h).1) m, e]
theorem fw_nonneg : ∀ (n : Nat), 0 ≤ fw sys n := by
  intro n
  induction n using Nat.strongRecOn with
  | ind n ih =>
    rcases Nat.eq_zero_or_pos n with h | h
    · subst h; exact Int.le_refl _
    · obtain ⟨c, hc, hle, e⟩ := fw_ex S (n := (n : Int)) (by omega)
      have := ih ((n : Int) - c).toNat (by have := (S.pos c hc).1; omega)
      have e2 : (((n : Int) - c).toNat : Int) = (n : Int) - c := by omega
      rw [e2] at this
      omega
theorem fw_nn {n : Int} (h : 0 ≤ n) : 0 ≤ fw sys n := by
  have := fw_nonneg S n.toNat
  rwa [Int.toNat_of_nonneg h] at this
def Fit (f : Int → Int) (c l : Int) : Bool := decide (c ≤ l) && decide (f (l - c) = f l - 1)
end
def timesIn (f : Int → Int) (c : Int) : Nat → Int → Nat
  | 0, _ => 0
  | k + 1, l => if Fit f c l = true then timesIn f c k (l - c) + 1 else 0
def times (f : Int → Int) (c l : Int) : Int := (timesIn f c l.toNat l : Nat)
def restOf (f : Int → Int) : List Int → Int → Int
  | [], l => l
  | c :: cs, l => restOf f cs (l - times f c l * c)
section
variable {sys : List Int} (S : SysW sys)
include S
end
end TM
set_option linter.all false
set_option maxRecDepth 100000
namespace L2
open PySem PySem.Spec PyProof.Rows
section
variable {X : Cx}
def rIsI (K : PySem.W.Frag) : List V → Hp → VK → Prop := fun xs H Q => ∃ x t b T, xs = [x, .ty T] ∧ TyOf K H x t ∧ PySem.W.kitOne K t (.type T) = some b ∧ Q (.bl b) H
theorem call_isinst : CallR X (.builtin "isinstance") (rIsI X.K) := by
  intro pins s σ H xs us Q I r h
  obtain ⟨x, t, b, T, rfl, ty, e, q⟩ := h
  obtain ⟨u, v, rfl, rx, rv⟩ := vals2 r
  cases (show v = Value.type T from rv)
  exact isinst_ok I rx ty e fun tk => ⟨.bl b, H, I.tok _, rfl, q⟩
theorem seq_walk {pins : List (Addr × Obj)} {σ : St} {H : Hp} {s : Shared} {p : Addr} {ys : List V} {E : Value → Shared → Prop} {A' : Around} {Q : Value → Shared → Prop} (I : Inv X pins σ H s) (hh : A'.handled = none) (hq : SqL X.K H p ys ∨ SqT X.K H p ys)
    (h : ∀ (its : List Value) (J : Addr) (fp : List Addr) (Stt : Nat → Heap → Prop) (h₁ : Heap), Vals ys its → Walks X.prog X.w A' J fp [J] its.length (fun i v => its[i]? = some v) Stt → Stt 0 h₁ → (∀ b ∈ fp, b < h₁.objs.size) → s.heap.objs.size ≤ J → (∀ b o, s.heap.get? b = some o → h₁.get? b = some o) → ys.length ≤ sizeLine →
      Q (.ref J) { s with heap := h₁ }) :
    wpAny (model X.prog X.w) A' (pyIter (.ref p)) Q E s := by
  rcases hq with hq | hq
  · obtain ⟨its, rv, pl, hz⟩ := I.list hq
    have hl := pl.isList
    have hlt : p < s.heap.objs.size := by obtain ⟨o, ho, _⟩ := hl; exact Heap.lt_size ho
    have W := Walks.list (prog := X.prog) (w := X.w) hh s.heap.objs.size p (Nat.ne_of_lt hlt) its.toArray
    have e2 : (fun (i : Nat) (v : Value) => its.toArray[i]? = some v) = fun i v => its[i]? = some v := by funext i v; simp
    rw [List.size_toArray, e2] at W
    refine wpAny_pyIter_list hl (h its _ _ _ _ rv W ⟨⟨_, Heap.get?_push_size _ rfl, rfl, rfl⟩, hl.push _⟩ (fun b hb => ?_) (Nat.le_refl _) (fun b o e => Heap.get?_push_of_some _ e) hz)
    rw [Heap.size_push]
    simp only [List.mem_cons, List.not_mem_nil, or_false] at hb
    rcases hb with rfl | rfl
    · exact Nat.lt_succ_self _
    · exact Nat.lt_succ_of_lt hlt
  · obtain ⟨its, rv, pl, hz⟩ := I.tuple hq
    have hl : s.heap.IsTuple p its.toArray := pl
    have hlt : p < s.heap.objs.size := by obtain ⟨o, ho, _⟩ := hl; exact Heap.lt_size ho
    have W := Walks.tuple (prog := X.prog) (w := X.w) hh s.heap.objs.size p (Nat.ne_of_lt hlt) its.toArray
    have e2 : (fun (i : Nat) (v : Value) => its.toArray[i]? = some v) = fun i v => its[i]? = some v := by funext i v; simp
    rw [List.size_toArray, e2] at W
    refine wpAny_pyIter_tuple hl (h its _ _ _ _ rv W ⟨⟨_, Heap.get?_push_size _ rfl, rfl, rfl⟩, hl.push _⟩ (fun b hb => ?_) (Nat.le_refl _) (fun b o e => Heap.get?_push_of_some _ e) hz)
    rw [Heap.size_push]
    simp only [List.mem_cons, List.not_mem_nil, or_false] at hb
    rcases hb with rfl | rfl
    · exact Nat.lt_succ_self _
    · exact Nat.lt_succ_of_lt hlt
theorem ints_at {ns : List Int} {its : List Value} (rv : Vals (ns.map V.int) its) {i : Nat} {v : Value} (e : its[i]? = some v) : ∃ t, v = .int (ns.getD i 0) t := by
  have hi : i < its.length := (List.getElem?_eq_some_iff.mp e).1
  have hl : ns.length = its.length := by have := rv.length; rwa [List.length_map] at this
  have e1 : (ns.map V.int)[i]? = some (.int (ns.getD i 0)) := by
    rw [List.getElem?_map, List.getElem?_eq_getElem (show i < ns.length by omega), List.getD_eq_getElem?_getD, List.getElem?_eq_getElem (show i < ns.length by omega)]
    rfl
  obtain ⟨u, h1, h2⟩ := rv.get e1
  rw [e] at h1
  cases h1
  exact h2
theorem preSum_take (ns : List Int) : ∀ n, n ≤ ns.length → PySem.preSum (fun i => ns.getD i 0) n = (ns.take n).sum
  | 0, _ => by simp [PySem.preSum]
  | n + 1, h => by
    show PySem.preSum (fun i => ns.getD i 0) n + ns.getD n 0 = _
    rw [preSum_take ns n (by omega), List.take_add_one, List.getElem?_eq_getElem (show n < ns.length by omega), List.getD_eq_getElem?_getD, List.getElem?_eq_getElem (show n < ns.length by omega), List.sum_append]
    simp
def rSum (K : PySem.W.Frag) : List V → Hp → VK → Prop := fun xs H Q => ∃ (p : Addr) (ns : List Int), xs = [.ref p] ∧ (SqL K H p (ns.map V.int) ∨ SqT K H p (ns.map V.int)) ∧ Q (.int ns.sum) H
theorem call_sum (hc : X.calm = true) : CallR X (.builtin "sum") (rSum X.K) := by
  intro pins s σ H xs us Q I r h
  obtain ⟨p, ns, rfl, hq, q⟩ := h
  obtain ⟨u, rfl, rx⟩ := vals1 r
  cases rx
  refine call_sum_walkAnyS (seq_walk I (A' := X.A.in1) (I.ok.hd hc) hq fun its J fp Stt h₁ rv W st hfp hJ hk hz => ?_)
  refine ⟨J, fp, [J], _, its.length, _, _, fun i => ns.getD i 0, rfl, W.toS, st, hfp, fun i v e => ints_at rv e, fun s' t' hm => ?_⟩
  have hl : its.length = ns.length := by have := rv.length; rw [List.length_map] at this; exact this.symm
  obtain ⟨h', g', d', tk', os'⟩ := s'
  have eg : g' = s.gens := hm.gens
  have ed : d' = s.drawn := hm.drawn
  have eo : os' = s.os := hm.os
  subst eg; subst ed; subst eo
  refine ⟨.int ns.sum, H, I.kept (h' := h') (t' := tk') fun b o e => hm.heap b o (fun z => ?_) (hk b o e), ⟨t', ?_⟩, q⟩
  · have : b = J := by simpa using z
    exact absurd (Heap.lt_size e) (by rw [this]; exact Nat.not_lt.mpr hJ)
  · rw [preSum_take ns _ (Nat.le_of_eq hl), hl, List.take_length]
def rAll (K : PySem.W.Frag) : List V → Hp → VK → Prop := fun xs H Q => ∃ (p : Addr) (bs : List Bool), xs = [.ref p] ∧ (SqL K H p (bs.map V.bl) ∨ SqT K H p (bs.map V.bl)) ∧ Q (.bl (bs.all id)) H
theorem call_all (hc : X.calm = true) : CallR X (.builtin "all") (rAll X.K) := by
  intro pins s σ H xs us Q I r h
  obtain ⟨p, bs, rfl, hq, q⟩ := h
  obtain ⟨u, rfl, rx⟩ := vals1 r
  cases rx
  refine call_all_walk (seq_walk I (A' := X.A.in1) (I.ok.hd hc) hq fun its J fp Stt h₁ rv W st hfp hJ hk hz => ?_)
  have hl : its.length = bs.length := by have := rv.length; rw [List.length_map] at this; exact this.symm
  refine ⟨J, fp, [J], its.length, _, _, fun i => bs.getD i true, rfl, W, st, fun i v s' Q' E' e hQ => ?_, fun h' tk hk' => ?_⟩
  · have hi : i < bs.length := by rw [← hl]; exact (List.getElem?_eq_some_iff.mp e).1
    have e1 : (bs.map V.bl)[i]? = some (.bl (bs.getD i true)) := by
      rw [List.getElem?_map, List.getElem?_eq_getElem hi, List.getD_eq_getElem?_getD, List.getElem?_eq_getElem hi]; rfl
    obtain ⟨u', h1, h2⟩ := rv.get e1
    rw [e] at h1
    cases h1
    cases (show v = Value.bool (bs.getD i true) from h2)
    exact wpAny_truthy_bool hQ
  · refine ⟨.bl (bs.all id), H, I.kept (h' := h') (t' := tk) fun b o e => hk' b o (fun z => ?_) (hk b o e), ?_, q⟩
    · have : b = J := by simpa using z
      exact absurd (Heap.lt_size e) (by rw [this]; exact Nat.not_lt.mpr hJ)
    · show Value.bool _ = Value.bool _
      congr 1
      rw [hl]
      rw [Bool.eq_iff_iff, List.all_eq_true, List.all_eq_true]
      constructor
      · intro h b hb
        obtain ⟨i, hi, rfl⟩ := List.mem_iff_getElem.mp hb
        have := h i (by simpa using hi)
        rwa [List.getD_eq_getElem?_getD, List.getElem?_eq_getElem hi] at this
      · intro h i hi
        have hi' : i < bs.length := by simpa using hi
        rw [List.getD_eq_getElem?_getD, List.getElem?_eq_getElem hi']
        exact h _ (List.getElem_mem hi')
theorem argBest_lt (val : Nat → Int) : ∀ j, PySem.argBest (fun i j => decide (val i < val j)) j ≤ j ∧ ∀ i, i ≤ j → val (PySem.argBest (fun i j => decide (val i < val j)) j) ≤ val i
  | 0 => ⟨Nat.le_refl _, fun i h => by have : i = 0 := by omega
                                       subst this; exact Int.le_refl _⟩
  | j + 1 => by
    obtain ⟨h1, h2⟩ := argBest_lt val j
    unfold PySem.argBest
    by_cases hc : val (j + 1) < val (PySem.argBest (fun i j => decide (val i < val j)) j)
    · rw [if_pos (by simpa using hc)]
      refine ⟨Nat.le_refl _, fun i hi => ?_⟩
      by_cases e : i = j + 1
      · subst e; exact Int.le_refl _
      · have := h2 i (by omega); omega
    · rw [if_neg (by simpa using hc)]
      refine ⟨by omega, fun i hi => ?_⟩
      by_cases e : i = j + 1
      · subst e; omega
      · exact h2 i (by omega)
theorem getD_mem {ns : List Int} {i : Nat} (h : i < ns.length) : ns.getD i 0 ∈ ns := by
  rw [List.getD_eq_getElem?_getD, List.getElem?_eq_getElem h]; exact List.getElem_mem h
theorem mem_getD {ns : List Int} {z : Int} (h : z ∈ ns) : ∃ i, i < ns.length ∧ ns.getD i 0 = z := by
  obtain ⟨i, hi, rfl⟩ := List.mem_iff_getElem.mp h
  exact ⟨i, hi, by rw [List.getD_eq_getElem?_getD, List.getElem?_eq_getElem hi]; rfl⟩
def rMin (K : PySem.W.Frag) : List V → Hp → VK → Prop := fun xs H Q => ∃ (p : Addr) (ns : List Int), xs = [.ref p] ∧ (SqL K H p (ns.map V.int) ∨ SqT K H p (ns.map V.int)) ∧ ns ≠ [] ∧ Q (.int (TM.minL ns)) H
theorem call_minL (hc : X.calm = true) : CallR X (.builtin "min") (rMin X.K) := by
  intro pins s σ H xs us Q I r h
  obtain ⟨p, ns, rfl, hq, hne, q⟩ := h
  obtain ⟨u, rfl, rx⟩ := vals1 r
  cases rx
  refine call_min_walk (seq_walk I (A' := X.A.in1) (I.ok.hd hc) hq fun its J fp Stt h₁ rv W st hfp hJ hk hz => ?_)
  have hl : its.length = ns.length := by have := rv.length; rw [List.length_map] at this; exact this.symm
  have hn : 0 < ns.length := List.length_pos_iff.mpr hne
  refine ⟨J, fp, [J], its.length, _, _, _, rfl, W, st, hfp, by omega, CmpOf.ints_lt (fun i => ns.getD i 0) (fun i v e => ints_at rv e), fun v h' tk hP hk' => ?_⟩
  obtain ⟨t, rfl⟩ := ints_at rv hP
  refine ⟨.int (TM.minL ns), H, I.kept (h' := h') (t' := tk) fun b o e => hk' b o (fun z => ?_) (hk b o e), ⟨t, ?_⟩, q⟩
  · have : b = J := by simpa using z
    exact absurd (Heap.lt_size e) (by rw [this]; exact Nat.not_lt.mpr hJ)
  · obtain ⟨b1, b2⟩ := argBest_lt (fun i => ns.getD i 0) (its.length - 1)
    congr 1
    refine (TM.minL_eq (getD_mem (by omega)) fun z hz' => ?_).symm
    obtain ⟨i, hi, rfl⟩ := mem_getD hz'
    exact b2 i (by omega)
def rMax (K : PySem.W.Frag) : List V → Hp → VK → Prop := fun xs H Q => ∃ (p : Addr) (ns : List Int), xs = [.ref p] ∧ (SqL K H p (ns.map V.int) ∨ SqT K H p (ns.map V.int)) ∧ ns ≠ [] ∧ Q (.int (TM.maxL ns)) H
def setHO (X : Cx) (q : Addr) (ks : List Int) : HO := .ext fun h => TC.SetIs X.prog X.w h q (!X.w.params.followText "set-order") ks
def rSet (X : Cx) : List V → Hp → VK → Prop := fun xs H Q => ∃ (p : Addr) (ns : List Int), xs = [.ref p] ∧ SqL X.K H p (ns.map V.int) ∧ ns.length ≤ 1000 ∧ ∀ (q : Addr) (ks : List Int), H q = none → ks.Nodup → (∀ z, z ∈ ks ↔ z ∈ ns) → ks.length ≤ ns.length → Q (.ref q) (upd H q (setHO X q ks))
theorem call_set (hc : X.calm = true) : CallR X (.type "set") (rSet X) := by
  intro pins s σ H xs us Q I r h
  obtain ⟨p, ns, rfl, hq, hlen, q⟩ := h
  obtain ⟨u, rfl, rx⟩ := vals1 r
  cases rx
  obtain ⟨its, rv, pl, hz⟩ := I.list hq
  have hl : its.length = ns.length := by have := rv.length; rw [List.length_map] at this; exact this.symm
  refine TC.set_call (I.ok.hd hc) pl.isList (intsAre_of rv) (by unfold scanBound; omega) fun h' tk ks hS hmem hkl hk => ?_
  have hnd : ks.Nodup := by obtain ⟨_, _, _, _, _, _, _, _, _, z⟩ := hS; exact z
  have ho : ∃ o, h'.get? s.heap.objs.size = some o := by obtain ⟨es, ep, t, ho, _⟩ := hS; exact ⟨_, ho⟩
  exact ⟨.ref s.heap.objs.size, upd H s.heap.objs.size (setHO X s.heap.objs.size ks), I.laid (t' := tk) (fun b o e => hk b o (Heap.lt_size e) e) (Nat.le_refl _) (show ObjOk X.prog X.w _ h' _ (setHO X s.heap.objs.size ks) from ⟨hS, ho, fun h1 h2 a1 a2 => a1.at a2⟩), rfl,
    q _ ks (I.hok.fresh (Nat.le_refl _)) hnd hmem (by omega)⟩
def rSortedSet (X : Cx) : List V → Hp → VK → Prop := fun xs H Q => ∃ (q : Addr) (ks : List Int), xs = [.ref q] ∧ H q = some (setHO X q ks) ∧ ks.length < 64 ∧ ∀ (l : Addr) (ns : List Int), H l = none → ns.Perm ks → ns.Pairwise (· ≤ ·) → Q (.ref l) (upd H l (.lst (ns.map V.int)))
theorem call_sortedSet (hc : X.calm = true) : CallR X (.builtin "sorted") (rSortedSet X) := by
  intro pins s σ H xs us Q I r h
  obtain ⟨p, ks, rfl, hq, hlen, q⟩ := h
  obtain ⟨u, rfl, rx⟩ := vals1 r
  cases rx
  have hS : TC.SetIs X.prog X.w s.heap p (!X.w.params.followText "set-order") ks := (I.hok p _ hq).1
  refine TC.sorted_set hS (I.ok.hd hc) hlen fun D h' tk d' vs ns c hk hD hoD hI hp hpw => ?_
  have I1 : Inv X pins σ H { s with heap := s.heap, gens := s.gens, drawn := d', toks := tk } := I.call (ch := []) Un.refl I.hok I.bare fun b hb => nomatch hb
  have hln : vs.length = ns.length := IntsAre.length hI
  have I2 : Inv X pins σ (upd H D (.lst (ns.map V.int))) { s with heap := h', gens := s.gens, drawn := d', toks := tk } :=
    I1.laid (t' := tk) hk hD (show ObjOk X.prog X.w _ h' _ (.lst (ns.map V.int)) from ⟨by rw [List.length_map, hp.length_eq, sizeLine_eq]; omega, vs, c, vals_ints hI, hoD⟩)
  exact ⟨.ref D, _, I2, rfl, q D ns (I.hok.fresh hD) hp hpw⟩
end
end L2
set_option linter.all false
set_option maxRecDepth 100000
namespace L2
open PySem PySem.Spec PyProof.Rows
section
variable {X : Cx} {tg : Expr}
end
def ItZ (K : PySem.W.Frag) (a b : Addr) : It :=
  ⟨fun i H => ∃ xs ys x y, SqT K H a xs ∧ SqT K H b ys ∧ xs[i]? = some x ∧ ys[i]? = some y,
   fun i H v H' => ∃ p x y, H p = none ∧ v = .ref p ∧ H' = upd H p (.tup [x, y]) ∧ (∀ xs, SqT K H a xs → xs[i]? = some x) ∧ (∀ ys, SqT K H b ys → ys[i]? = some y),
   fun i H => ∃ xs ys, SqT K H a xs ∧ SqT K H b ys ∧ (xs.length ≤ i ∨ ys.length ≤ i)⟩
theorem an {a b : Nat} (h : a ≠ b) : @Ne Addr a b := h
theorem za (n : Nat) : TC.ZA (n + 4) (n + 2) (n + 3) n (n + 1) := ⟨an (by omega), an (by omega), an (by omega), an (by omega), an (by omega), an (by omega), an (by omega), an (by omega), an (by omega), an (by omega)⟩
theorem zne (n c : Nat) (h : c < n) : @Ne Addr c (n + 4) ∧ @Ne Addr c (n + 3) ∧ @Ne Addr c n ∧ @Ne Addr c (n + 1) := ⟨an (by omega), an (by omega), an (by omega), an (by omega)⟩
theorem turn_zipT {P : Program} {w : World} {K : PySem.W.Frag} {es : List Expr} {k : Nat} {tp : Pos} (a b n : Nat) (ha : a < n) (hb : b < n) :
    Turn P w K (.Tuple es k tp) (ItZ K a b) [n + 4, n + 2, n + 3, n, n + 1] (n + 4) (fun i h => IsZip h (n + 4) (n + 2) (n + 3) .none ∧ IsPair h (n + 2) (.ref n) (.ref (n + 1)) ∧ (∃ u v, IsPair h (n + 3) u v) ∧ h.IsTupleIter n a i ∧ h.IsTupleIter (n + 1) b i) where
  mem := by simp
  obj := fun i h st c hc => by
    obtain ⟨s1, s2, ⟨u, v, s3⟩, ⟨o4, e4, _, d4⟩, ⟨o5, e5, _, d5⟩⟩ := st
    simp only [List.mem_cons, List.not_mem_nil, or_false] at hc
    rcases hc with rfl | rfl | rfl | rfl | rfl
    · exact ⟨_, s1, fun v z => by cases z⟩
    · exact ⟨_, s2, fun v z => by cases z⟩
    · exact ⟨_, s3, fun v z => by cases z⟩
    · exact ⟨_, e4, fun v z => by rw [d4] at z; cases z⟩
    · exact ⟨_, e5, fun v z => by rw [d5] at z; cases z⟩
  keep := fun i h h' st kp => by
    obtain ⟨s1, s2, ⟨u, v, s3⟩, ⟨o4, e4, r4⟩, ⟨o5, e5, r5⟩⟩ := st
    exact ⟨kp _ (by simp) _ s1, kp _ (by simp) _ s2, ⟨u, v, kp _ (by simp) _ s3⟩, ⟨o4, kp _ (by simp) _ e4, r4⟩, ⟨o5, kp _ (by simp) _ e5, r5⟩⟩
  item := by
    intro X hP hw hK hc i pins s σ H E I hf st hg
    obtain ⟨xs, ys, x, y, hq1, hq2, hx, hy⟩ := hg
    subst hP hw hK
    obtain ⟨s1, s2, ⟨u, v, s3⟩, s4, s5⟩ := st
    obtain ⟨its1, rv1, p1, hz1⟩ := I.tuple hq1
    obtain ⟨its2, rv2, p2, hz2⟩ := I.tuple hq2
    obtain ⟨ux, hux, rx⟩ := rv1.get hx
    obtain ⟨uy, huy, ry⟩ := rv2.get hy
    refine TC.zip_item (za n) s1 s2 s3 s4 s5 (show s.heap.IsTuple a its1.toArray from p1) (show s.heap.IsTuple b its2.toArray from p2) (zne n a ha) (zne n b hb) (by simpa using hux) (by simpa using huy) fun h' z1 z2 z3 z4 z5 z6 hk => ?_
    have fp4 := hf (n + 4) (by simp)
    have fp3 := hf (n + 3) (by simp)
    have fp0 := hf n (by simp)
    have fp1 := hf (n + 1) (by simp)
    have hn4 : n + 4 < s.heap.objs.size := Heap.lt_size s1
    have fresh : H s.heap.objs.size = none := I.hok.fresh (Nat.le_refl _)
    refine ⟨.ref s.heap.objs.size, rfl, ?_⟩
    refine wpAny_letOwnedTupleGo_zip z1 fun h'' y1 sb => ?_
    have hk2 : ∀ c o, c ≠ n + 4 → c ≠ n + 3 → c ≠ n → c ≠ n + 1 → s.heap.get? c = some o → h''.get? c = some o := fun c o c1 c2 c3 c4 e => (sb.2 c c1).trans (hk c o c1 c2 c3 c4 e)
    have hT'' : h''.get? s.heap.objs.size = some { cls := .type "tuple", data := .seq #[ux, uy] } := (sb.2 _ (Nat.ne_of_gt hn4)).trans z6
    have ch : ∀ c ∈ [n + 4, n + 3, n, n + 1], (c ∈ X.ex ∨ X.s₀.heap.objs.size ≤ c) ∧ c ≠ X.env.locals ∧ (∀ x d, X.env.cells.lookup x = some d → d ≠ c) ∧ ∀ p ∈ X.pn ++ pins, p.1 ≠ c := fun c hcm => by
      simp only [List.mem_cons, List.not_mem_nil, or_false] at hcm
      rcases hcm with rfl | rfl | rfl | rfl
      · exact ⟨fp4.2.2.2.1, fp4.2.1, fp4.2.2.2.2.1, fp4.2.2.2.2.2⟩
      · exact ⟨fp3.2.2.2.1, fp3.2.1, fp3.2.2.2.2.1, fp3.2.2.2.2.2⟩
      · exact ⟨fp0.2.2.2.1, fp0.2.1, fp0.2.2.2.2.1, fp0.2.2.2.2.2⟩
      · exact ⟨fp1.2.2.2.1, fp1.2.1, fp1.2.2.2.2.1, fp1.2.2.2.2.2⟩
    have nin : ∀ c, c ∉ [n + 4, n + 3, n, n + 1] → c ≠ n + 4 ∧ c ≠ n + 3 ∧ c ≠ n ∧ c ≠ n + 1 := fun c h => by
      simp only [List.mem_cons, List.not_mem_nil, or_false, not_or] at h
      exact h
    have hkc : ∀ c o, c ∉ [n + 4, n + 3, n, n + 1] → s.heap.get? c = some o → h''.get? c = some o := fun c o h e => by
      obtain ⟨c1, c2, c3, c4⟩ := nin c h
      exact hk2 c o c1 c2 c3 c4 e
    have nch : ∀ c u, H c = some u → c ∉ [n + 4, n + 3, n, n + 1] := fun c u e hcm => by
      simp only [List.mem_cons, List.not_mem_nil, or_false] at hcm
      rcases hcm with rfl | rfl | rfl | rfl
      · rw [fp4.1] at e; cases e
      · rw [fp3.1] at e; cases e
      · rw [fp0.1] at e; cases e
      · rw [fp1.1] at e; cases e
    have lenOk : ([x, y] : List V).length ≤ sizeLine := by rw [sizeLine_eq]; exact Nat.le_of_ble_eq_true rfl
    have hv2 : Vals [x, y] [ux, uy] := .cons rx (.cons ry .nil)
    have hok1 : HOk X.prog X.w H h'' := fun c u e => by
      refine (I.hok c u e).stay (fun d o' hd z => hkc d o' ?_ z) (fun _ z => z) fun _ _ z => z
      rcases hd with z | z
      · rw [z]; exact nch c u e
      · exact nch d _ z
    have hok2 : HOk X.prog X.w (upd H s.heap.objs.size (.tup [x, y])) h'' := HOk.track hok1 fresh ⟨lenOk, [ux, uy], hv2, _, hT'', rfl, _, rfl⟩
    have I2 : Inv X pins σ (upd H s.heap.objs.size (.tup [x, y])) { s with heap := h'', gens := s.gens, drawn := s.drawn, toks := s.toks } := I.step (ch := [n + 4, n + 3, n, n + 1]) ch (fun c o _ _ h e _ => hkc c o h e) (fun c o _ _ h e _ => ⟨o.slots, hkc c o h e⟩)
      (fun c o _ e nn => by rw [upd_ne (Nat.ne_of_lt (Heap.lt_size e))]; exact nn)
      (fun c o h e => ⟨o, hkc c o h e⟩) (fun c xs e => by rw [upd_ne (ne_of_none e fresh)]; exact e) (fun c o u e => by rw [upd_ne (ne_of_none e fresh)]; exact e) (fun c ps e => ⟨#[], by rw [upd_ne (ne_of_none e fresh), e]; simp⟩) (fun m hm => by
        obtain ⟨o, es', ep, ho, r⟩ := hm
        refine ⟨o, es', ep, hkc _ o (fun z => (ch _ z).2.1 rfl) ho, r⟩) hok2 I.bare
    refine ⟨.ref s.heap.objs.size, _, I2, rfl, ⟨s.heap.objs.size, x, y, fresh, rfl, rfl, fun zs hzs => by rw [I.tuple_inj hzs hq1]; exact hx, fun zs hzs => by rw [I.tuple_inj hzs hq2]; exact hy⟩, ?_, fun c hcm => ?_⟩
    · refine ⟨y1, (sb.2 _ (za n).TIz).trans z2, ⟨_, _, (sb.2 _ (za n).TOz).trans z3⟩, ?_, ?_⟩
      · obtain ⟨o, e, r⟩ := z4; exact ⟨o, (sb.2 _ (za n).i1z).trans e, r⟩
      · obtain ⟨o, e, r⟩ := z5; exact ⟨o, (sb.2 _ (za n).i2z).trans e, r⟩
    · have hlt : c < s.heap.objs.size := by
        obtain ⟨o, ho, _⟩ : ∃ o, s.heap.get? c = some o ∧ True := by
          simp only [List.mem_cons, List.not_mem_nil, or_false] at hcm
          rcases hcm with rfl | rfl | rfl | rfl | rfl
          · exact ⟨_, s1, trivial⟩
          · exact ⟨_, s2, trivial⟩
          · exact ⟨_, s3, trivial⟩
          · obtain ⟨o, e, _⟩ := s4; exact ⟨_, e, trivial⟩
          · obtain ⟨o, e, _⟩ := s5; exact ⟨_, e, trivial⟩
        exact Heap.lt_size ho
      rw [upd_ne (Nat.ne_of_lt hlt)]
      exact (hf c hcm).1
  done := by
    intro X hP hw hK hc i pins s σ H E I hf st hg
    obtain ⟨xs, ys, hq1, hq2, hend⟩ := hg
    subst hP hw hK
    obtain ⟨s1, s2, ⟨u, v, s3⟩, s4, s5⟩ := st
    obtain ⟨its1, rv1, p1, hz1⟩ := I.tuple hq1
    obtain ⟨its2, rv2, p2, hz2⟩ := I.tuple hq2
    have l1 := rv1.length
    have l2 := rv2.length
    have fp4 := hf (n + 4) (by simp)
    have fp3 := hf (n + 3) (by simp)
    have fp0 := hf n (by simp)
    have fp1 := hf (n + 1) (by simp)
    refine TC.zip_end (I.ok.hd hc) (za n) s1 s2 s3 s4 s5 (show s.heap.IsTuple a its1.toArray from p1) (show s.heap.IsTuple b its2.toArray from p2) (zne n a ha) (zne n b hb) ?_ fun h' hk => ⟨rfl, ?_⟩
    · rcases hend with z | z
      · exact .inl (by simp; omega)
      · exact .inr (by simp; omega)
    · have ch : ∀ c ∈ [n + 4, n + 3, n, n + 1], (c ∈ X.ex ∨ X.s₀.heap.objs.size ≤ c) ∧ c ≠ X.env.locals ∧ (∀ x d, X.env.cells.lookup x = some d → d ≠ c) ∧ ∀ p ∈ X.pn ++ pins, p.1 ≠ c := fun c hcm => by
        simp only [List.mem_cons, List.not_mem_nil, or_false] at hcm
        rcases hcm with rfl | rfl | rfl | rfl
        · exact ⟨fp4.2.2.2.1, fp4.2.1, fp4.2.2.2.2.1, fp4.2.2.2.2.2⟩
        · exact ⟨fp3.2.2.2.1, fp3.2.1, fp3.2.2.2.2.1, fp3.2.2.2.2.2⟩
        · exact ⟨fp0.2.2.2.1, fp0.2.1, fp0.2.2.2.2.1, fp0.2.2.2.2.2⟩
        · exact ⟨fp1.2.2.2.1, fp1.2.1, fp1.2.2.2.2.1, fp1.2.2.2.2.2⟩
      have hkc : ∀ c o, c ∉ [n + 4, n + 3, n, n + 1] → s.heap.get? c = some o → h'.get? c = some o := fun c o h e => by
        simp only [List.mem_cons, List.not_mem_nil, or_false, not_or] at h
        exact hk c o h.1 h.2.1 h.2.2.1 h.2.2.2 e
      have nch : ∀ c u, H c = some u → c ∉ [n + 4, n + 3, n, n + 1] := fun c u e hcm => by
        simp only [List.mem_cons, List.not_mem_nil, or_false] at hcm
        rcases hcm with rfl | rfl | rfl | rfl
        · rw [fp4.1] at e; cases e
        · rw [fp3.1] at e; cases e
        · rw [fp0.1] at e; cases e
        · rw [fp1.1] at e; cases e
      exact I.step (g' := s.gens) (d' := s.drawn) (t' := s.toks) (ch := [n + 4, n + 3, n, n + 1]) ch (fun c o _ _ h e _ => hkc c o h e) (fun c o _ _ h e _ => ⟨o.slots, hkc c o h e⟩) (fun _ _ _ _ z => z)
        (fun c o h e => ⟨o, hkc c o h e⟩) (fun _ _ e => e) (fun _ _ _ e => e) (fun c ps e => ⟨#[], by rw [e]; simp⟩) (fun m hm => by
          obtain ⟨o, es', ep, ho, r⟩ := hm
          exact ⟨o, es', ep, hkc _ o (fun z => (ch _ z).2.1 rfl) ho, r⟩) (fun c u e => by
          refine (I.hok c u e).stay (fun d o' hd z => hkc d o' ?_ z) (fun _ z => z) fun _ _ z => z
          rcases hd with z | z
          · rw [z]; exact nch c u e
          · exact nch d _ z) I.bare
  self := fun _ _ _ _ _ st h => wpAny_pyIter_zip st.1 h
section
variable {X : Cx} {es : List Expr} {k : Nat} {tp : Pos}
def iZip (K : PySem.W.Frag) (ta : TA) : TI := fun σ H R => ta σ H fun vs H1 => ∃ a b xs ys, vs = [.ref a, .ref b] ∧ SqT K H1 a xs ∧ SqT K H1 b ys ∧ R (ItZ K a b) H1
theorem pi_zip {e1 e2 : Expr} {ta : TA} {p pos : Pos} (hg : Gl X "zip") (hm : X.mg "zip" = none) (ha : PA X [e1, e2] ta) (hs : starEach [e1, e2] X.env = [(false, eval e1 X.env), (false, eval e2 X.env)] := by rfl) (hs2 : starEach [e2] X.env = [(false, eval e2 X.env)] := by rfl) :
    PI X (.Tuple es k tp) (.Call (.Name "zip" p) [e1, e2] [] pos) (iZip X.K ta) := by
  intro pins s σ H R I h
  refine Call_ (ld_blt I hg hm boot_zip (PyProof.Rows.callWith_type1 (thn (ha pos pins s σ H _ I h) fun us s1 ⟨vs, H1, I1, r1, q1⟩ => ?_) (by rw [hs, hs2]) (by rw [hs2]; rfl)))
  obtain ⟨a, b, xs, ys, e, hq1, hq2, q⟩ := q1
  subst e
  obtain ⟨u, v, rfl, rx, ry⟩ := vals2 r1
  cases rx
  cases ry
  obtain ⟨its1, rv1, p1, hz1⟩ := I1.tuple hq1
  obtain ⟨its2, rv2, p2, hz2⟩ := I1.tuple hq2
  have ha' : a < s1.heap.objs.size := by obtain ⟨o, ho, _⟩ := p1; exact Heap.lt_size ho
  have hb' : b < s1.heap.objs.size := by obtain ⟨o, ho, _⟩ := p2; exact Heap.lt_size ho
  refine TC.call_zipT (show s1.heap.IsTuple a its1.toArray from p1) (show s1.heap.IsTuple b its2.toArray from p2) fun h' z1 z2 z3 z4 z5 hk => ?_
  refine wpAny_pyIter_zip z1 ?_
  have I2 : Inv X pins σ H1 { s1 with heap := h' } := I1.kept (t' := s1.toks) hk
  refine ⟨s1.heap.objs.size + 4, [s1.heap.objs.size + 4, s1.heap.objs.size + 2, s1.heap.objs.size + 3, s1.heap.objs.size, s1.heap.objs.size + 1], _, _, H1, rfl, I2, turn_zipT a b s1.heap.objs.size ha' hb', ⟨z1, z2, ⟨_, _, z3⟩, z4, z5⟩, fun c hc => ?_, q⟩
  have hle : s1.heap.objs.size ≤ c := by
    simp only [List.mem_cons, List.not_mem_nil, or_false] at hc
    rcases hc with rfl | rfl | rfl | rfl | rfl
    · exact Nat.le_add_right _ _
    · exact Nat.le_add_right _ _
    · exact Nat.le_add_right _ _
    · exact Nat.le_refl _
    · exact Nat.le_add_right _ _
  exact I1.fpOk hle (I1.hok.fresh hle)
end
section
variable {X : Cx} {tg : Expr}
end
end L2
set_option linter.all false
set_option maxRecDepth 100000
namespace L2
open PySem PySem.Spec PyProof.Rows
def CN (Pv : Nat → List V → Hp → Prop) (n i : Nat) (ys : List V) (H : Hp) : Prop := ∃ m', m' < n - i ∧ m' = n - (i + 1) ∧ i + 1 ≤ n ∧ Pv (i + 1) ys H
theorem CN.mk {Pv : Nat → List V → Hp → Prop} {n i : Nat} {ys : List V} {H : Hp} (hi : i < n) (h : Pv (i + 1) ys H) : CN Pv n i ys H := ⟨n - (i + 1), by omega, rfl, hi, h⟩
section
variable {K : PySem.W.Frag} {g : TG} {ti : TT} {te : TE} {σ0 : St} {H : Hp} {Q : VK}
theorem comp_tup {a : Addr} {xs : List V} (Pv : Nat → List V → Hp → Prop) (h0 : Pv 0 [] H) (hl : ∀ i ys H, i ≤ xs.length → Pv i ys H → SqT K H a xs)
    (hs : ∀ i x ys H, i < xs.length → xs[i]? = some x → Pv i ys H → g x σ0 H fun σ2 H2 => ti σ2 H2 fun b H3 => if b = true then te σ2 H3 fun y H4 => ys.length < sizeLine ∧ CN Pv xs.length i (ys ++ [y]) H4 else CN Pv xs.length i ys H3)
    (hd : ∀ ys H, Pv xs.length ys H → ∀ p, H p = none → Q (.ref p) (upd H p (.lst ys))) :
    CompW g ti te σ0 Q (Itt K a) H := by
  refine ⟨fun i m ys H => m = xs.length - i ∧ i ≤ xs.length ∧ Pv i ys H, ⟨xs.length, by simp, Nat.zero_le _, h0⟩, ?_⟩
  rintro i m ys H ⟨rfl, hi, p⟩
  have q := hl i ys H hi p
  by_cases hlt : i < xs.length
  · refine .inr ⟨⟨xs, xs[i], q, by simp [hlt]⟩, fun x H' y => ?_⟩
    obtain ⟨e, y⟩ := y
    subst e
    exact hs i x ys _ hlt (y xs q) p
  · have e : i = xs.length := by omega
    subst e
    exact .inl ⟨⟨xs, q, Nat.le_refl _⟩, hd ys H p⟩
theorem comp_list {a : Addr} {xs : List V} (Pv : Nat → List V → Hp → Prop) (h0 : Pv 0 [] H) (hl : ∀ i ys H, i ≤ xs.length → Pv i ys H → SqL K H a xs)
    (hs : ∀ i x ys H, i < xs.length → xs[i]? = some x → Pv i ys H → g x σ0 H fun σ2 H2 => ti σ2 H2 fun b H3 => if b = true then te σ2 H3 fun y H4 => ys.length < sizeLine ∧ CN Pv xs.length i (ys ++ [y]) H4 else CN Pv xs.length i ys H3)
    (hd : ∀ ys H, Pv xs.length ys H → ∀ p, H p = none → Q (.ref p) (upd H p (.lst ys))) :
    CompW g ti te σ0 Q (Itl K a) H := by
  refine ⟨fun i m ys H => m = xs.length - i ∧ i ≤ xs.length ∧ Pv i ys H, ⟨xs.length, by simp, Nat.zero_le _, h0⟩, ?_⟩
  rintro i m ys H ⟨rfl, hi, p⟩
  have q := hl i ys H hi p
  by_cases hlt : i < xs.length
  · refine .inr ⟨⟨xs, xs[i], q, by simp [hlt]⟩, fun x H' y => ?_⟩
    obtain ⟨e, y⟩ := y
    subst e
    exact hs i x ys _ hlt (y xs q) p
  · have e : i = xs.length := by omega
    subst e
    exact .inl ⟨⟨xs, q, Nat.le_refl _⟩, hd ys H p⟩
theorem comp_zip {a b : Addr} {xs zs : List V} (Pv : Nat → List V → Hp → Prop) (h0 : Pv 0 [] H) (hl : ∀ i ys H, i ≤ min xs.length zs.length → Pv i ys H → SqT K H a xs ∧ SqT K H b zs)
    (hs : ∀ i x z p ys H, xs[i]? = some x → zs[i]? = some z → H p = none → Pv i ys H → g (.ref p) σ0 (upd H p (.tup [x, z])) fun σ2 H2 => ti σ2 H2 fun b H3 => if b = true then te σ2 H3 fun y H4 => ys.length < sizeLine ∧ CN Pv (min xs.length zs.length) i (ys ++ [y]) H4 else CN Pv (min xs.length zs.length) i ys H3)
    (hd : ∀ ys H, Pv (min xs.length zs.length) ys H → ∀ p, H p = none → Q (.ref p) (upd H p (.lst ys))) :
    CompW g ti te σ0 Q (ItZ K a b) H := by
  refine ⟨fun i m ys H => m = min xs.length zs.length - i ∧ i ≤ min xs.length zs.length ∧ Pv i ys H, ⟨min xs.length zs.length - 0, rfl, Nat.zero_le _, h0⟩, ?_⟩
  rintro i m ys H ⟨rfl, hi, p⟩
  have q := hl i ys H hi p
  by_cases hlt : i < min xs.length zs.length
  · have h1 : xs[i]? = some xs[i] := List.getElem?_eq_getElem (by omega)
    have h2 : zs[i]? = some zs[i] := List.getElem?_eq_getElem (by omega)
    refine .inr ⟨⟨xs, zs, _, _, q.1, q.2, h1, h2⟩, fun v H' y => ?_⟩
    obtain ⟨r, x, z, hr, rfl, rfl, ex, ez⟩ := y
    exact hs i x z r ys _ (ex xs q.1) (ez zs q.2) hr p
  · have e : i = min xs.length zs.length := by omega
    subst e
    exact .inl ⟨⟨xs, zs, q.1, q.2, by omega⟩, hd ys H p⟩
end
theorem gk_tup {K : PySem.W.Frag} {n nt : Nat} {t : TGs} (h : GsKeep t nt) : GKeep (gTup K n t) nt := fun v σ H Q ⟨a, xs, e, q, l, z⟩ => ⟨a, xs, e, q, l, h xs σ H Q z⟩
theorem gk_two {i j nt : Nat} (hi : i < nt) (hj : j < nt) : GsKeep (gCons (gName i) (gCons (gName j) gNil)) nt := fun vs σ H Q ⟨v, r, e, v2, r2, e2, e3, q⟩ =>
  ⟨v, r, e, v2, r2, e2, e3, q, by simp, fun k hk => by rw [List.getElem?_set_ne (by omega), List.getElem?_set_ne (by omega)]⟩
theorem Same.seqT {K : PySem.W.Frag} {H H' : Hp} {a : Addr} {xs : List V} (e : Same H H') (h : SqT K H a xs) : SqT K H' a xs := by
  rcases h with (h | ⟨o, h⟩) | h
  · exact .inl (.inl (e _ _ h))
  · exact .inl (.inr ⟨o, e _ _ h⟩)
  · exact .inr h
theorem Same.upd {H : Hp} {p : Addr} {o : HO} (h : H p = Option.none) : Same H (upd H p o) := fun b u e => by rw [upd_ne (ne_of_none e h)]; exact e
end L2
set_option linter.all false
set_option maxRecDepth 100000
namespace L2
open PySem PySem.Spec PyProof.Rows
section
variable {X : Cx} {scope : Scope} {elt tg iter : Expr} {ifs : List Expr} {pos : Pos} {wi : TI} {g : TG} {ti : TT} {te : TE}
end
end L2
set_option linter.all false
set_option maxRecDepth 100000
namespace L2
open PySem PySem.Spec PyProof.Rows
mutual
inductive Dat (K : PySem.W.Frag) (H : Hp) : V → PyData → Prop
  | non : Dat K H .non .none
  | bl (b : Bool) : Dat K H (.bl b) (.bool b)
  | int (i : Int) : Dat K H (.int i) (.int i)
  | str (x : Str) : Dat K H (.str x) (.str x)
  | lst {a xs ds} : SqL K H a xs → DatAll K H xs ds → Dat K H (.ref a) (.list ds)
  | tup {a xs ds} : SqT K H a xs → DatAll K H xs ds → Dat K H (.ref a) (.tuple ds)
inductive DatAll (K : PySem.W.Frag) (H : Hp) : List V → List PyData → Prop
  | nil : DatAll K H [] []
  | cons {x d xs ds} : Dat K H x d → DatAll K H xs ds → DatAll K H (x :: xs) (d :: ds)
end
section
variable {X : Cx}
mutual
theorem Dat.reads {pins : List (Addr × Obj)} {σ : St} {H : Hp} {s : Shared} (I : Inv X pins σ H s) {x : V} {d : PyData} {v : Value} : Dat X.K H x d → RelV x v → ∃ as, Reads s.heap v d as
  | .non, r => by cases r; exact ⟨_, .none⟩
  | .bl b, r => by cases r; exact ⟨_, .bool b⟩
  | .int i, r => by obtain ⟨t, rfl⟩ := r; exact ⟨_, .int i t⟩
  | .str x, r => by obtain ⟨t, rfl⟩ := r; exact ⟨_, .str x t⟩
  | .lst hq hd, r => by
    cases r
    obtain ⟨its, rv, ⟨o, n, e, c, _, dd⟩, _⟩ := I.list hq
    obtain ⟨as, ra⟩ := DatAll.reads I hd rv
    exact ⟨_, .list e c dd (by simpa using ra)⟩
  | .tup hq hd, r => by
    cases r
    obtain ⟨its, rv, ⟨o, e, c, n, dd⟩, _⟩ := I.tuple hq
    obtain ⟨as, ra⟩ := DatAll.reads I hd rv
    exact ⟨_, .tuple e c dd (by simpa using ra)⟩
theorem DatAll.reads {pins : List (Addr × Obj)} {σ : St} {H : Hp} {s : Shared} (I : Inv X pins σ H s) {xs : List V} {ds : List PyData} {vs : List Value} : DatAll X.K H xs ds → Vals xs vs → ∃ as, ReadsAll s.heap vs ds as
  | .nil, .nil => ⟨_, .nil⟩
  | .cons h t, .cons r rs => by
    obtain ⟨as, a⟩ := Dat.reads I h r
    obtain ⟨bs, b⟩ := DatAll.reads I t rs
    exact ⟨_, .cons a b⟩
end
def rEqD (K : PySem.W.Frag) (neg : Bool) : R2 := fun x y H Q => ∃ dx dy, Dat K H x dx ∧ Dat K H y dy ∧ SeqAt.shaped dx = true ∧ SeqAt.shaped dy = true ∧ Q (.bl (if neg then !PyData.eqv dx dy else PyData.eqv dx dy)) H
theorem op_eqD (hu : X.A.units + 64 < cLine) : OpR X (compareOp .Eq) (rEqD X.K false) := by
  intro pins s σ H x y v u Q I rx ry h
  obtain ⟨dx, dy, hx, hy, sx, sy, q⟩ := h
  obtain ⟨as, ra⟩ := hx.reads I rx
  obtain ⟨bs, rb⟩ := hy.reads I ry
  exact SeqAt.compareEq_shaped ra rb sx sy hu ⟨.bl _, H, I, rfl, q⟩
theorem op_neD (hu : X.A.units + 64 < cLine) : OpR X (compareOp .NotEq) (rEqD X.K true) := by
  intro pins s σ H x y v u Q I rx ry h
  obtain ⟨dx, dy, hx, hy, sx, sy, q⟩ := h
  obtain ⟨as, ra⟩ := hx.reads I rx
  obtain ⟨bs, rb⟩ := hy.reads I ry
  exact SeqAt.compareNe_shaped ra rb sx sy hu ⟨.bl _, H, I, rfl, q⟩
end
def dI (ns : List Int) : List PyData := ns.map PyData.int
theorem DatAll.ints {K : PySem.W.Frag} {H : Hp} : ∀ (ns : List Int), DatAll K H (ns.map V.int) (dI ns)
  | [] => .nil
  | n :: ns => .cons (.int n) (DatAll.ints ns)
theorem canLay_ints : ∀ ns : List Int, PyData.canLayAll0 (dI ns) = true
  | [] => rfl
  | n :: ns => by
    show (PyData.canLay0 (.int n) && PyData.canLayAll0 (dI ns)) = true
    rw [canLay_ints ns]; rfl
theorem depth_ints : ∀ ns : List Int, PyData.depthAll (dI ns) = 0
  | [] => rfl
  | n :: ns => by
    show max (PyData.depth (.int n)) (PyData.depthAll (dI ns)) = 0
    rw [depth_ints ns]; rfl
theorem shaped_tup {ds : List PyData} (h : PyData.canLayAll0 ds = true) (hd : PyData.depthAll ds ≤ 63) : SeqAt.shaped (.tuple ds) = true := by
  unfold SeqAt.shaped
  rw [Bool.and_eq_true]
  refine ⟨h, decide_eq_true ?_⟩
  show PyData.depthAll ds + 1 ≤ 64
  omega
end L2
set_option linter.all false
namespace TM
theorem zip_rev {α β : Type} : ∀ (l : List α) (r : List β), l.length = r.length → l.reverse.zip r.reverse = (l.zip r).reverse
  | [], [], _ => rfl
  | a :: l, b :: r, h => by
    have h' : l.length = r.length := by simpa using h
    rw [List.reverse_cons, List.reverse_cons, List.zip_cons_cons, List.reverse_cons, List.zip_append (by rw [List.length_reverse, List.length_reverse]; exact h'), zip_rev l r h']
    rfl
  | [], _ :: _, h => by simp at h
  | _ :: _, [], h => by simp at h
section
variable {sys : List Int} (S : SysW sys)
include S
end
end TM
set_option linter.all false
namespace TM
def grF : List Int → Int → List Int
  | [], _ => []
  | c :: cs, l => l / c :: grF cs (l % c)
def grR : List Int → Int → Int
  | [], l => l
  | c :: cs, l => grR cs (l % c)
def byGr (sys : List Int) (n : Int) : List Int := (grF sys.reverse n).reverse
theorem grF_length : ∀ (cs : List Int) (l : Int), (grF cs l).length = cs.length
  | [], _ => rfl
  | c :: cs, l => by rw [grF, List.length_cons, grF_length cs, List.length_cons]
theorem byGr_length (sys : List Int) (n : Int) : (byGr sys n).length = sys.length := by
  rw [byGr, List.length_reverse, grF_length, List.length_reverse]
theorem grR_snoc (c : Int) : ∀ (cs : List Int) (l : Int), grR (cs ++ [c]) l = grR cs l % c
  | [], l => rfl
  | d :: cs, l => by rw [List.cons_append, grR, grR_snoc c cs, grR]
theorem grF_bounds : ∀ (cs : List Int) (l : Int), (∀ c ∈ cs, 1 ≤ c) → 0 ≤ l → ∀ t ∈ grF cs l, 0 ≤ t ∧ t ≤ l
  | [], l, _, h => fun t ht => nomatch ht
  | d :: cs, l, hc, h => fun t ht => by
    have hd := hc d List.mem_cons_self
    have h1 : 0 ≤ l % d := Int.emod_nonneg _ (by omega)
    have hq : 0 ≤ l / d := Int.ediv_nonneg h (by omega)
    have h2 : l / d ≤ l := Int.ediv_le_self _ h
    have h3 : l % d ≤ l := by
      have := Int.mul_ediv_add_emod l d
      have : 0 ≤ d * (l / d) := Int.mul_nonneg (by omega) hq
      omega
    rw [grF] at ht
    rcases List.mem_cons.mp ht with rfl | ht
    · exact ⟨hq, h2⟩
    · have := grF_bounds cs (l % d) (fun c h => hc c (List.mem_cons_of_mem _ h)) h1 t ht
      omega
theorem grF_pays : ∀ (cs : List Int) (l : Int), ((cs.zip (grF cs l)).map fun p => p.1 * p.2).sum + grR cs l = l
  | [], l => by simp [grF, grR]
  | d :: cs, l => by
    rw [grF, List.zip_cons_cons, List.map_cons, List.sum_cons, grR]
    have := grF_pays cs (l % d)
    have := Int.mul_ediv_add_emod l d
    dsimp only; omega
theorem grF_skip : ∀ (pre cs : List Int) (l : Int), 0 ≤ l → (∀ d ∈ pre, l < d) → grF (pre ++ cs) l = List.replicate pre.length 0 ++ grF cs l
  | [], cs, l, _, _ => rfl
  | d :: pre, cs, l, h0, h => by
    have hd := h d List.mem_cons_self
    rw [List.cons_append, grF, Int.ediv_eq_zero_of_lt h0 hd, Int.emod_eq_of_lt h0 hd, grF_skip pre cs l h0 (fun e he => h e (List.mem_cons_of_mem _ he))]
    rfl
theorem grF_take {pre post : List Int} {c l : Int} (hc : 1 ≤ c) (hl : c ≤ l) (h : ∀ d ∈ pre, l < d) :
    ∃ q ts, grF (pre ++ c :: post) l = List.replicate pre.length 0 ++ (q + 1) :: ts ∧ grF (pre ++ c :: post) (l - c) = List.replicate pre.length 0 ++ q :: ts := by
  refine ⟨(l - c) / c, grF post (l % c), ?_, ?_⟩
  · rw [grF_skip _ _ _ (by omega) h, grF]
    have : l / c = (l - c) / c + 1 := by
      have := Int.add_mul_ediv_right (l - c) 1 (show c ≠ 0 by omega)
      rw [show l - c + 1 * c = l by omega] at this
      exact this
    rw [this]
  · rw [grF_skip _ _ _ (by omega) (fun d hd => by have := h d hd; omega), grF]
    have : (l - c) % c = l % c := by
      have := Int.add_mul_emod_self_right (l - c) 1 c
      rw [show l - c + 1 * c = l by omega] at this
      exact this.symm
    rw [this]
theorem grF_zero : ∀ (cs : List Int), (∀ c ∈ cs, 1 ≤ c) → grF cs 0 = List.replicate cs.length 0
  | [], _ => rfl
  | c :: cs, h => by rw [grF, Int.zero_ediv, Int.zero_emod, grF_zero cs (fun d hd => h d (List.mem_cons_of_mem _ hd))]; rfl
theorem zip_snd {α β : Type} : ∀ (l : List α) (r : List β), l.length = r.length → (l.zip r).map (·.2) = r
  | [], [], _ => rfl
  | a :: l, b :: r, h => by rw [List.zip_cons_cons, List.map_cons, zip_snd l r (by simpa using h)]
  | [], _ :: _, h => by simp at h
  | _ :: _, [], h => by simp at h
theorem getD_app {l r : List Int} {q : Int} {i : Nat} (h : l.length = i) : (l ++ q :: r).getD i 0 = q := by
  subst h; simp [List.getD_eq_getElem?_getD]
theorem set_app {l r : List Int} {q z : Int} {i : Nat} (h : l.length = i) : (l ++ q :: r).set i z = l ++ z :: r := by
  subst h; simp
section
variable {sys : List Int} (S : SysW sys)
include S
theorem rev_pos : ∀ c ∈ sys.reverse, 1 ≤ c := fun c hc => (S.pos c (List.mem_reverse.mp hc)).1
theorem byGr_zero : byGr sys 0 = List.replicate sys.length 0 := by
  rw [byGr, grF_zero _ (rev_pos S), List.reverse_replicate, List.length_reverse]
theorem byGr_step {i : Nat} {c l : Int} (hi : sys[i]? = some c) (hl : c ≤ l) (hg : ∀ j d, i < j → sys[j]? = some d → l < d) :
    byGr sys l = (byGr sys (l - c)).set i ((byGr sys (l - c)).getD i 0 + 1) := by
  have hlt : i < sys.length := (List.getElem?_eq_some_iff.mp hi).1
  have hc := (S.pos c (List.mem_of_getElem? hi)).1
  have hsplit : sys = sys.take i ++ c :: sys.drop (i + 1) := by
    have : sys.drop i = c :: sys.drop (i + 1) := by
      rw [List.drop_eq_getElem_cons hlt]
      congr 1
      exact (List.getElem?_eq_some_iff.mp hi).2
    rw [← this, List.take_append_drop]
  have hrev : sys.reverse = (sys.drop (i + 1)).reverse ++ c :: (sys.take i).reverse := by
    conv => lhs; rw [hsplit]
    rw [List.reverse_append, List.reverse_cons, List.append_assoc]; rfl
  have hpre : ∀ d ∈ (sys.drop (i + 1)).reverse, l < d := by
    intro d hd
    obtain ⟨j, hj, e⟩ := List.mem_iff_getElem.mp (List.mem_reverse.mp hd)
    refine hg (i + 1 + j) d (by omega) ?_
    rw [← e, ← List.getElem?_drop, List.getElem?_eq_getElem]
  obtain ⟨q, ts, e1, e2⟩ := grF_take (post := (sys.take i).reverse) hc hl hpre
  have htl : ts.length = i := by
    have := congrArg List.length e1
    rw [← hrev, grF_length, List.length_reverse] at this
    simp only [List.length_append, List.length_replicate, List.length_reverse, List.length_drop, List.length_cons] at this
    omega
  rw [byGr, byGr, hrev, e1, e2, List.reverse_append, List.reverse_append, List.reverse_cons, List.reverse_cons, List.reverse_replicate]
  have hl' : ts.reverse.length = i := by rw [List.length_reverse, htl]
  simp only [List.append_assoc, List.singleton_append]
  rw [getD_app hl', set_app hl']
theorem fw_add {n c : Int} (hn : 0 ≤ n) (hc : c ∈ sys) : ∀ (t : Nat), fw sys (n + c * t) ≤ fw sys n + t
  | 0 => by simp
  | t + 1 => by
    have h1 := (S.pos c hc).1
    have ih := fw_add hn hc t
    have hp : 0 ≤ c * (t : Int) := Int.mul_nonneg (by omega) (by omega)
    have e : n + c * ((t + 1 : Nat) : Int) = n + c * t + c := by
      have : c * ((t + 1 : Nat) : Int) = c * t + c := by rw [show ((t + 1 : Nat) : Int) = (t : Int) + 1 by omega, Int.mul_add, Int.mul_one]
      omega
    have := fw_le S (n := n + c * ((t + 1 : Nat) : Int)) hc (by omega)
    rw [show n + c * ((t + 1 : Nat) : Int) - c = n + c * t by omega] at this
    have : ((t + 1 : Nat) : Int) = (t : Int) + 1 := by omega
    omega
theorem fw_way : ∀ (ps : List (Int × Int)), (∀ p ∈ ps, p.1 ∈ sys ∧ 0 ≤ p.2) → 0 ≤ (ps.map fun p => p.1 * p.2).sum ∧ fw sys (ps.map fun p => p.1 * p.2).sum ≤ (ps.map (·.2)).sum
  | [], _ => ⟨by simp, Int.le_refl _⟩
  | p :: ps, h => by
    obtain ⟨i0, i1⟩ := fw_way ps (fun q hq => h q (List.mem_cons_of_mem _ hq))
    obtain ⟨hc, ht⟩ := h p List.mem_cons_self
    have h1 := (S.pos p.1 hc).1
    have h0 : 0 ≤ p.1 * p.2 := Int.mul_nonneg (by omega) ht
    rw [List.map_cons, List.sum_cons, List.map_cons, List.sum_cons]
    refine ⟨by omega, ?_⟩
    have := fw_add S i0 hc p.2.toNat
    rw [Int.toNat_of_nonneg ht] at this
    rw [Int.add_comm]
    omega
theorem grR_one {n : Int} : grR sys.reverse n = 0 := by
  obtain ⟨r, hr⟩ : ∃ r, sys = 1 :: r := by
    have := S.one
    cases hs : sys with
    | nil => rw [hs] at this; simp at this
    | cons a r => rw [hs] at this; simp at this; exact ⟨r, by rw [this]⟩
  rw [hr, List.reverse_cons, grR_snoc, Int.emod_one]
theorem byGr_all {n : Int} (h : 0 ≤ n) : fw sys n ≤ (byGr sys n).sum ∧ (∀ t ∈ byGr sys n, 0 ≤ t ∧ t ≤ n) ∧ ((sys.zip (byGr sys n)).map fun p => p.1 * p.2).sum = n := by
  have hb := grF_bounds sys.reverse n (rev_pos S) h
  have hp := grF_pays sys.reverse n
  rw [grR_one S] at hp
  have hw := fw_way S (sys.reverse.zip (grF sys.reverse n)) (fun p hp => ⟨List.mem_reverse.mp (List.of_mem_zip hp).1, (hb _ (List.of_mem_zip hp).2).1⟩)
  rw [zip_snd _ _ (by rw [grF_length])] at hw
  have hp' : ((sys.reverse.zip (grF sys.reverse n)).map fun p => p.1 * p.2).sum = n := by omega
  rw [hp'] at hw
  refine ⟨by rw [byGr, List.sum_reverse]; exact hw.2, fun t ht => hb t (List.mem_reverse.mp ht), ?_⟩
  have e : sys.zip (byGr sys n) = (sys.reverse.zip (grF sys.reverse n)).reverse := by
    have hz := zip_rev sys.reverse (grF sys.reverse n) (by rw [grF_length])
    rw [List.reverse_reverse] at hz
    exact hz
  rw [e, List.map_reverse, List.sum_reverse]
  exact hp'
end
end TM
set_option linter.all false
namespace TM
section
variable {sys : List Int} (S : SysW sys)
include S
end
end TM
set_option linter.all false
set_option maxRecDepth 100000
namespace L2
open PySem PySem.Spec PyProof.Rows
section
variable {κ : Type} [DecidableEq κ]
def valV (kvs : List (κ × V)) (k : κ) : Option V := (kvs.find? fun kv => decide (kv.1 = k)).map (·.2)
def putK (kvs : List (κ × V)) (k : κ) (v : V) : List (κ × V) :=
  if (kvs.any fun kv => decide (kv.1 = k)) = true then kvs.map (fun kv => if kv.1 = k then (kv.1, v) else kv) else kvs ++ [(k, v)]
def dropK (kvs : List (κ × V)) (k : κ) : List (κ × V) := kvs.filter fun kv => decide (kv.1 ≠ k)
theorem valV_pos {p : κ × V} {r : List (κ × V)} {k : κ} (e : p.1 = k) : valV (p :: r) k = some p.2 := by simp [valV, List.find?_cons, e]
theorem valV_neg {p : κ × V} {r : List (κ × V)} {k : κ} (e : ¬ p.1 = k) : valV (p :: r) k = valV r k := by simp [valV, List.find?_cons, e]
theorem valV_any (k : κ) : ∀ kvs : List (κ × V), (kvs.any fun kv => decide (kv.1 = k)) = (valV kvs k).isSome
  | [] => rfl
  | p :: r => by
    rw [List.any_cons]
    by_cases e : p.1 = k
    · simp only [valV_pos e, decide_eq_true e, Bool.true_or, Option.isSome_some]
    · rw [valV_neg e, decide_eq_false e, Bool.false_or]; exact valV_any k r
theorem length_putK (kvs : List (κ × V)) (k : κ) (v : V) : (putK kvs k v).length ≤ kvs.length + 1 := by
  unfold putK
  split
  · rw [List.length_map]; omega
  · rw [List.length_append, List.length_cons, List.length_nil]; omega
theorem RelO.isSome_eq {o : Option V} {u : Option Value} (r : RelO o u) : o.isSome = u.isSome := by
  cases o with
  | none => cases u with
    | none => rfl
    | some _ => exact (show False from r).elim
  | some _ => cases u with
    | none => exact (show False from r).elim
    | some _ => rfl
theorem RelO.getD {o : Option V} {u : Option Value} {d : V} {d' : Value} (r : RelO o u) (rd : RelV d d') : RelV (o.getD d) (u.getD d') := by
  cases o with
  | none => cases u with
    | none => exact rd
    | some _ => exact (show False from r).elim
  | some _ => cases u with
    | none => exact (show False from r).elim
    | some _ => exact r
theorem KV.val {kvs : List (κ × V)} {vs : List (κ × Value)} (r : KV kvs vs) (k : κ) : RelO (valV kvs k) (valueAt vs k) := by
  unfold KV at r
  induction r with
  | nil => exact True.intro
  | @cons p q ps qs h t ih =>
    obtain ⟨h1, h2⟩ := h
    by_cases e : p.1 = k
    · have e' : q.1 = k := h1.symm.trans e
      have b : valueAt (q :: qs) k = some q.2 := by simp [valueAt, List.find?_cons, e']
      rw [valV_pos e, b]; exact h2
    · have e' : ¬ q.1 = k := fun z => e (h1.trans z)
      have b : valueAt (q :: qs) k = valueAt qs k := by simp [valueAt, List.find?_cons, e']
      rw [valV_neg e, b]; exact ih
theorem KV.any {kvs : List (κ × V)} {vs : List (κ × Value)} (r : KV kvs vs) (k : κ) : (kvs.any fun kv => decide (kv.1 = k)) = vs.any fun kv => decide (kv.1 = k) := by
  unfold KV at r
  induction r with
  | nil => rfl
  | cons h t ih => rw [List.any_cons, List.any_cons, ih, h.1]
theorem KV.repl {kvs : List (κ × V)} {vs : List (κ × Value)} (r : KV kvs vs) (k : κ) {y : V} {u : Value} (ry : RelV y u) :
    KV (kvs.map fun kv => if kv.1 = k then (kv.1, y) else kv) (vs.map fun kv => if kv.1 = k then (kv.1, u) else kv) := by
  unfold KV at r ⊢
  induction r with
  | nil => exact .nil
  | @cons p q ps qs h t ih =>
    rw [List.map_cons, List.map_cons]
    refine .cons ?_ ih
    obtain ⟨h1, h2⟩ := h
    by_cases e : p.1 = k
    · rw [if_pos e, if_pos (h1.symm.trans e)]; exact ⟨h1, ry⟩
    · rw [if_neg e, if_neg (fun z => e (h1.trans z))]; exact ⟨h1, h2⟩
theorem KV.put {kvs : List (κ × V)} {vs : List (κ × Value)} (r : KV kvs vs) (k : κ) {y : V} {u : Value} (ry : RelV y u) : KV (putK kvs k y) (stored vs k u) := by
  unfold putK stored
  rw [r.any k]
  by_cases e : (vs.any fun kv => decide (kv.1 = k)) = true
  · rw [if_pos e, if_pos e]; exact r.repl k ry
  · rw [if_neg e, if_neg e]; exact Paired.snoc r ⟨rfl, ry⟩
theorem KV.drop {kvs : List (κ × V)} {vs : List (κ × Value)} (r : KV kvs vs) (k : κ) : KV (dropK kvs k) (without vs k) := by
  unfold KV at r ⊢
  unfold dropK without
  induction r with
  | nil => exact .nil
  | @cons p q ps qs h t ih =>
    obtain ⟨h1, h2⟩ := h
    rw [List.filter_cons, List.filter_cons]
    by_cases e : p.1 = k
    · have a : ¬ decide (p.1 ≠ k) = true := by simp [e]
      have b : ¬ decide (q.1 ≠ k) = true := by simp [h1.symm.trans e]
      rw [if_neg a, if_neg b]; exact ih
    · have e' : ¬ q.1 = k := fun z => e (h1.trans z)
      have a : decide (p.1 ≠ k) = true := by simp [e]
      have b : decide (q.1 ≠ k) = true := by simp [e']
      rw [if_pos a, if_pos b]; exact .cons ⟨h1, h2⟩ ih
theorem KV.keys {kvs : List (κ × V)} {vs : List (κ × Value)} (r : KV kvs vs) : kvs.map (·.1) = vs.map (·.1) := by
  unfold KV at r
  induction r with
  | nil => rfl
  | cons h t ih => rw [List.map_cons, List.map_cons, ih, h.1]
theorem KV.length {kvs : List (κ × V)} {vs : List (κ × Value)} (r : KV kvs vs) : kvs.length = vs.length := Paired.length r
end
theorem kV_is {P : Program} {w : World} {k : Key} {u : Value} (r : RelV (kV k) u) : (mixKind P w).is k u = true := by
  cases k with
  | inl i => obtain ⟨t, e⟩ := (show ∃ t, u = Value.int i t from r); subst e; exact mixKind_int P w i t
  | inr x => obtain ⟨t, e⟩ := (show ∃ t, u = Value.str x t from r); subst e; exact mixKind_str P w x t
theorem items_are {P : Program} {w : World} : ∀ {ks : List Key} {us : List Value}, Vals (ks.map kV) us → ItemsAre (mixKind P w) ks us
  | [], _, r => by rw [List.map_nil] at r; cases r; exact .nil
  | k :: ks, _, r => by
    rw [List.map_cons] at r
    cases r with
    | cons h t => exact .cons (kV_is h) (items_are t)
abbrev KT (H : Hp) : List (List Key × V) → List (List Key × Addr × Value) → Prop := Paired fun p q => p.1 = q.1 ∧ H q.2.1 = some (.tup (p.1.map kV)) ∧ RelV p.2 q.2.2
theorem KT.val {H : Hp} {kvs : List (List Key × V)} {xs : List (List Key × Addr × Value)} (r : KT H kvs xs) (k : List Key) : RelO (valV kvs k) ((atKey xs k).map (·.2)) := by
  induction r with
  | nil => exact True.intro
  | @cons p q ps qs h t ih =>
    obtain ⟨h1, _, h2⟩ := h
    by_cases e : p.1 = k
    · have e' : q.1 = k := h1.symm.trans e
      have b : atKey (q :: qs) k = some q.2 := by simp [atKey, List.find?_cons, e']
      rw [valV_pos e, b]; exact h2
    · have e' : ¬ q.1 = k := fun z => e (h1.trans z)
      have b : atKey (q :: qs) k = atKey qs k := by simp [atKey, List.find?_cons, e']
      rw [valV_neg e, b]; exact ih
theorem KT.repl {H : Hp} {kvs : List (List Key × V)} {xs : List (List Key × Addr × Value)} (r : KT H kvs xs) (k : List Key) {y : V} {u : Value} (ry : RelV y u) :
    KT H (kvs.map fun kv => if kv.1 = k then (kv.1, y) else kv) (xs.map (putAt k u)) := by
  induction r with
  | nil => exact .nil
  | @cons p q ps qs h t ih =>
    rw [List.map_cons, List.map_cons]
    refine .cons ?_ ih
    obtain ⟨h1, h2, h3⟩ := h
    unfold putAt
    by_cases e : p.1 = k
    · rw [if_pos e, if_pos (h1.symm.trans e)]; exact ⟨h1, h2, ry⟩
    · rw [if_neg e, if_neg (fun z => e (h1.trans z))]; exact ⟨h1, h2, h3⟩
theorem KT.put {H : Hp} {kvs : List (List Key × V)} {xs : List (List Key × Addr × Value)} (r : KT H kvs xs) (k : List Key) {b : Addr} {y : V} {u : Value} (hb : H b = some (.tup (k.map kV))) (ry : RelV y u) :
    KT H (putK kvs k y) (storedH xs k b u) := by
  have e : (kvs.any fun kv => decide (kv.1 = k)) = (atKey xs k).isSome := by
    rw [valV_any, (r.val k).isSome_eq, Option.isSome_map]
  unfold putK storedH
  rw [e]
  by_cases q : (atKey xs k).isSome = true
  · rw [if_pos q, if_pos q]; exact r.repl k ry
  · rw [if_neg q, if_neg q]; exact Paired.snoc r ⟨rfl, hb, ry⟩
theorem KT.keeps {H H' : Hp} {kvs : List (List Key × V)} {xs : List (List Key × Addr × Value)} (r : KT H kvs xs) (ht : ∀ b ys, H b = some (.tup ys) → H' b = some (.tup ys)) : KT H' kvs xs :=
  Paired.mapP r fun _ _ z => ⟨z.1, ht _ _ z.2.1, z.2.2⟩
section
variable {P : Program} {w : World} {H : Hp} {h : Heap} {a : Addr}
theorem rd_of {u : HO} (ok : HOk P w H h) (e : Rd H a u) : ObjOk P w H h a u := e.ok ok
theorem dk_rd {kvs : List (Key × V)} (ok : HOk P w H h) (e : Rd H a (.dK kvs)) : kvs.length ≤ sizeLine ∧ (a == sysModules) = false ∧ ∃ vs, KV kvs vs ∧ h.DictOf (mixKind P w) a vs :=
  show ObjOk P w H h a (.dK kvs) from rd_of ok e
theorem dk_of {kvs : List (Key × V)} (ok : HOk P w H h) (e : H a = some (.dK kvs)) : kvs.length ≤ sizeLine ∧ (a == sysModules) = false ∧ ∃ vs, KV kvs vs ∧ h.DictOf (mixKind P w) a vs := dk_rd ok (.inl e)
theorem key_of {ks : List Key} (ok : HOk P w H h) (e : H a = some (.tup (ks.map kV))) : (tupleKind (mixKind P w)).is h ks a := by
  obtain ⟨_, its, r, o, h1, h2, n, h3⟩ := (show ObjOk P w H h a (.tup (ks.map kV)) from ok a _ e)
  exact ⟨o, its.toArray, n, h1, h2, h3, by simpa using items_are r⟩
theorem dt_rd {kvs : List (List Key × V)} (ok : HOk P w H h) (e : Rd H a (.dT kvs)) : kvs.length ≤ sizeLine ∧ (a == sysModules) = false ∧
    ∃ xs, KT H kvs xs ∧ h.DictOfH (tupleKind (mixKind P w)) a xs := by
  obtain ⟨z, y, xs, r, o, es, ep, h1, h2, h3, h4, h5⟩ := (show ObjOk P w H h a (.dT kvs) from rd_of ok e)
  refine ⟨z, y, xs, r, o, es, ep, h1, h2, h3, h4, fun x hx => ?_, h5⟩
  have all : ∀ {l : List (List Key × V)} {m : List (List Key × Addr × Value)}, KT H l m → ∀ x ∈ m, (tupleKind (mixKind P w)).is h x.1 x.2.1 := by
    intro l m q
    induction q with
    | nil => intro x hx; exact nomatch hx
    | @cons p q ps qs hq t ih =>
      intro x hx
      rcases List.mem_cons.mp hx with e | hx
      · subst e
        exact key_of ok (by rw [← hq.1]; exact hq.2.1)
      · exact ih x hx
  exact all r x hx
theorem dt_of {kvs : List (List Key × V)} (ok : HOk P w H h) (e : H a = some (.dT kvs)) : kvs.length ≤ sizeLine ∧ (a == sysModules) = false ∧
    ∃ xs, KT H kvs xs ∧ h.DictOfH (tupleKind (mixKind P w)) a xs := dt_rd ok (.inl e)
end
def DGet (H : Hp) (a : Addr) (y : V) (r : Option V) : Prop :=
  (∃ kvs k, Rd H a (.dK kvs) ∧ y = kV k ∧ r = valV kvs k) ∨ ∃ kvs k b, Rd H a (.dT kvs) ∧ y = .ref b ∧ H b = some (.tup (k.map kV)) ∧ r = valV kvs k
def DPut (H : Hp) (a : Addr) (y v : V) (H' : Hp) : Prop :=
  (∃ kvs k, H a = some (.dK kvs) ∧ y = kV k ∧ kvs.length < sizeLine ∧ H' = upd H a (.dK (putK kvs k v))) ∨
  ∃ kvs k b, H a = some (.dT kvs) ∧ y = .ref b ∧ H b = some (.tup (k.map kV)) ∧ kvs.length < sizeLine ∧ H' = upd H a (.dT (putK kvs k v))
theorem DGet.k {H : Hp} {a : Addr} {kvs : List (Key × V)} {k : Key} (e : H a = some (.dK kvs)) : DGet H a (kV k) (valV kvs k) := .inl ⟨kvs, k, .inl e, rfl, rfl⟩
theorem DGet.t {H : Hp} {a b : Addr} {kvs : List (List Key × V)} {k : List Key} (e : H a = some (.dT kvs)) (eb : H b = some (.tup (k.map kV))) : DGet H a (.ref b) (valV kvs k) := .inr ⟨kvs, k, b, .inl e, rfl, eb, rfl⟩
theorem DPut.k {H : Hp} {a : Addr} {kvs : List (Key × V)} {k : Key} {v : V} (e : H a = some (.dK kvs)) (hl : kvs.length < sizeLine) : DPut H a (kV k) v (upd H a (.dK (putK kvs k v))) := .inl ⟨kvs, k, e, rfl, hl, rfl⟩
theorem DPut.t {H : Hp} {a b : Addr} {kvs : List (List Key × V)} {k : List Key} {v : V} (e : H a = some (.dT kvs)) (eb : H b = some (.tup (k.map kV))) (hl : kvs.length < sizeLine) :
    DPut H a (.ref b) v (upd H a (.dT (putK kvs k v))) := .inr ⟨kvs, k, b, e, rfl, eb, hl, rfl⟩
section
variable {X : Cx} {pins : List (Addr × Obj)} {σ : St} {H : Hp} {s : Shared} {a : Addr} {y v : V} {u r : Value} {o : Option V} {A : Around} {E : Value → Shared → Prop}
theorem Inv.big (I : Inv X pins σ H s) : sysModules < s.heap.objs.size := by
  have h : mainGlobals < s.heap.objs.size := (I.mod.glob.keeps I.bk).lt
  exact Nat.lt_trans (by decide) h
theorem d_getItem {Q : Value → Shared → Prop} (hu : A.units + 1 < cLine) (I : Inv X pins σ H s) (g : DGet H a y (some v)) (ry : RelV y u) (h : ∀ w' s', Inv X pins σ H s' → RelV v w' → Q w' s') :
    wpAny (model X.prog X.w) A (getItem (.ref a) u) Q E s := by
  rcases g with ⟨kvs, k, e, ey, l⟩ | ⟨kvs, k, b, e, ey, eb, l⟩
  · subst ey
    obtain ⟨z, hd, vs, rel, dd⟩ := dk_rd I.hok e
    obtain ⟨w', hw, rw'⟩ := RelO.some_of (v := v) (o := valueAt vs k) (by rw [l]; exact rel.val k)
    exact wpAny_getItem_of (kV_is ry) dd.mapOf hw (h w' _ (I.tok _) rw')
  · subst ey
    cases (show u = Value.ref b from ry)
    obtain ⟨z, hd, xs, rel, dd⟩ := dt_rd I.hok e
    obtain ⟨w', hw, rw'⟩ := RelO.some_of (v := v) (o := (atKey xs k).map (·.2)) (by rw [l]; exact rel.val k)
    obtain ⟨p, hp, hp2⟩ := Option.map_eq_some_iff.mp hw
    refine wpAny_getItem_heap (tupleKind_room_in1 hu) (key_of I.hok eb) dd hp ?_
    rw [hp2]
    exact h w' _ (I.tok _) rw'
theorem d_notIn {Q : Value → Shared → Prop} (hu : A.units + 1 < cLine) (I : Inv X pins σ H s) (g : DGet H a y o) (ry : RelV y u) (h : ∀ s', Inv X pins σ H s' → Q (.bool (!o.isSome)) s') :
    wpAny (model X.prog X.w) A (compareOp .NotIn u (.ref a)) Q E s := by
  rcases g with ⟨kvs, k, e, ey, l⟩ | ⟨kvs, k, b, e, ey, eb, l⟩
  · subst ey
    obtain ⟨z, hd, vs, rel, dd⟩ := dk_rd I.hok e
    refine wpAny_notIn_of (kV_is ry) hd dd.mapOf ?_
    rw [← (rel.val k).isSome_eq, ← l]
    exact h _ (I.tok _)
  · subst ey
    cases (show u = Value.ref b from ry)
    obtain ⟨z, hd, xs, rel, dd⟩ := dt_rd I.hok e
    refine wpAny_notIn_heap (tupleKind_room_in1 hu) (key_of I.hok eb) hd dd ?_
    have q := (rel.val k).isSome_eq
    rw [Option.isSome_map] at q
    rw [← q, ← l]
    exact h _ (I.tok _)
theorem d_write {h' : Heap} {t' : Nat} {ob : HO} (I : Inv X pins σ H s) (mu : Mut (H a)) (hs : Heap.SameBut a s.heap h') (he : ∃ q, h'.get? a = some q) (new : ObjOk X.prog X.w (upd H a ob) h' a ob) :
    Inv X pins σ (upd H a ob) { s with heap := h', toks := t' } :=
  I.write (x := a) (e := a) mu (.inl rfl) (fun b q hb z => (hs.2 b hb).trans z) he new
theorem dk_new {P : Program} {w : World} {H' : Hp} {h' : Heap} {kvs : List (Key × V)} {vs : List (Key × Value)} (z : kvs.length ≤ sizeLine) (hd : (a == sysModules) = false) (rel : KV kvs vs) (dd : h'.DictOf (mixKind P w) a vs) :
    ObjOk P w H' h' a (.dK kvs) := ⟨z, hd, vs, rel, dd⟩
theorem d_setItem {H' : Hp} {Q : Unit → Shared → Prop} (hu : A.units + 1 < cLine) (I : Inv X pins σ H s) (g : DPut H a y v H') (ry : RelV y u) (rv : RelV v r) (h : ∀ s', Inv X pins σ H' s' → Q () s') :
    wpAny (model X.prog X.w) A (setItem (.ref a) u r) Q E s := by
  rcases g with ⟨kvs, k, e, ey, l, eH⟩ | ⟨kvs, k, b, e, ey, eb, l, eH⟩
  · subst ey eH
    obtain ⟨z, hd, vs, rel, dd⟩ := dk_of I.hok e
    have hz : vs.length ≤ sizeLine := by rw [← rel.length]; exact z
    have hl : (putK kvs k v).length ≤ sizeLine := by have := length_putK kvs k v; omega
    refine wpAny_setItem_pairs (hsz := hz) (kV_is ry) dd fun h' dd' hs => h _ ?_
    have he : ∃ q, h'.get? a = some q := let ⟨q, _, _, hq, _⟩ := dd'; ⟨q, hq⟩
    exact d_write I (by rw [e]; exact True.intro) hs he (dk_new hl hd (rel.put k rv) dd')
  · subst ey eH
    cases (show u = Value.ref b from ry)
    obtain ⟨z, hd, xs, rel, dd⟩ := dt_of I.hok e
    have hz : xs.length ≤ sizeLine := by rw [← Paired.length rel]; exact z
    have hl : (putK kvs k v).length ≤ sizeLine := by have := length_putK kvs k v; omega
    refine wpAny_setItem_heap (hsz := hz) (tupleKind_room_in1 hu) (key_of I.hok eb) dd fun h' dd' hs => h _ ?_
    obtain ⟨q, es, ep, hq, h2, h3, h4, _, h5⟩ := dd'
    refine d_write I (by rw [e]; exact True.intro) hs ⟨q, hq⟩ ⟨hl, hd, _, (rel.put k eb rv).keeps fun c ys ec => ?_, q, es, ep, hq, h2, h3, h4, h5⟩
    rw [upd_ne (ne_of ec e (fun z => nomatch z))]
    exact ec
end
section
variable {X : Cx} {pins : List (Addr × Obj)} {σ : St} {H : Hp} {s : Shared} {a : Addr} {kvs : List (Key × V)} {k : Key} {u : Value} {A : Around} {E : Value → Shared → Prop}
end
def NoSl (i : Expr) : Prop := ∀ ov iv, subscripted i false ov iv = operate [ov, iv] (getItem ov iv)
theorem subD_of {prog : Program} {w : World} {A : Around} {E : Value → Shared → Prop} {s : Shared} {env : Env} {value slice : Expr} {pos : Pos} {T id : String} {Q : Value → Shared → Prop}
    (hl : typeLookup (.type T) "__getitem__" = pure (some (.builtin id))) (hs : NoSl slice)
    (h : wpAny (model prog w) A (eval value env) (fun o s₁ => wpAny (model prog w) A (eval slice env) (fun i s₂ => s₂.TypeIs o T ∧ wpAny (model prog w) A (getItem o i) Q E s₂) E s₁) E s) :
    wpAny (model prog w) A (eval (.Subscript value slice pos) env) Q E s := by
  refine Subscript_ (wpAny_mono h (fun o s₁ h₁ => wpAny_mono h₁ (fun i s₂ h₂ => ?_) fun _ _ x => x) fun _ _ x => x)
  obtain ⟨hT, h₂⟩ := h₂
  unfold subscriptTail
  refine wpAny_bind ?_
  rw [getitemInPython_of_ne hT.not_modules]
  refine wpAny_bind (wpAny_specialOf hT hl ?_)
  have fin : wpAny (model prog w) A (subscripted slice false o i) (fun r s₃ => wpAny (model prog w) A (letTemporaryGo value o r >>= fun _ => pure r) Q E s₃) E s₂ := by
    rw [hs o i]
    exact wpAny_operating (wpAny_mono h₂ (fun r s₃ h₃ => wpAny_bind (wpAny_letTemporaryGo (wpAny_pure h₃))) fun _ _ x => x)
  first
    | exact wpAny_pure (wpAny_bind fin)
    | exact wpAny_bind (wpAny_pure (wpAny_bind fin))
    | exact wpAny_bind fin
theorem dict_typeIs {X : Cx} {pins : List (Addr × Obj)} {σ : St} {H : Hp} {s : Shared} {a : Addr} {y : V} {o : Option V} (I : Inv X pins σ H s) (g : DGet H a y o) : s.TypeIs (.ref a) "dict" := by
  rcases g with ⟨kvs, k, e, _, _⟩ | ⟨kvs, k, b, e, _, _, _⟩
  · obtain ⟨_, _, vs, _, dd⟩ := dk_rd I.hok e
    exact dd.typeIs
  · obtain ⟨_, _, xs, _, dd⟩ := dt_rd I.hok e
    exact dd.typeIs
def tDGet (td ty : TE) : TE := fun σ H Q => td σ H fun x H1 => ty σ H1 fun y H2 => ∃ a v, x = .ref a ∧ DGet H2 a y (some v) ∧ Q v H2
def tDNotIn (ty td : TE) : TE := fun σ H Q => ty σ H fun y H1 => td σ H1 fun x H2 => ∃ a o, x = .ref a ∧ DGet H2 a y o ∧ Q (.bl (!o.isSome)) H2
def sDPut (td ty tv : TE) : TS := fun D σ H => tv σ H fun v H1 => td σ H1 fun x H2 => ty σ H2 fun y H3 => ∃ a H4, x = .ref a ∧ DPut H3 a y v H4 ∧ D.nx σ H4
section
variable {X : Cx} {o i e value : Expr} {pos pos' tpos : Pos} {td ty tv : TE}
theorem pe_dget (hu : X.A.units + 1 < cLine) (ho : PE X o td) (hi : PE X i ty) (hs : NoSl i) : PE X (.Subscript o i pos) (tDGet td ty) := by
  intro pins s σ H Q I h
  refine subD_of PySem.F.slot_dict_getitem.lookup hs (thn (ho pins s σ H _ I h) fun u s1 ⟨x, H1, I1, rx, q1⟩ => thn (hi pins s1 σ H1 _ I1 q1) fun iv s2 ⟨y, H2, I2, ry, a, v, ex, g, q2⟩ => ?_)
  subst ex
  obtain rfl : u = Value.ref a := rx
  exact ⟨dict_typeIs I2 g, d_getItem hu I2 g ry fun w' s3 I3 rw' => ⟨v, H2, I3, rw', q2⟩⟩
theorem pc_dnotin (hu : X.A.units + 1 < cLine) (hi : PE X i ty) (ho : PE X o td) : PC X .NotIn i o (tDNotIn ty td) := by
  intro pins s σ H Q I h
  refine thn (hi pins s σ H _ I h) fun iv s1 ⟨y, H1, I1, ry, q1⟩ => thn (ho pins s1 σ H1 _ I1 q1) fun u s2 ⟨x, H2, I2, rx, a, ov, ex, g, q2⟩ => ?_
  subst ex
  obtain rfl : u = Value.ref a := rx
  exact d_notIn hu I2 g ry fun s3 I3 => ⟨.bl (!ov.isSome), H2, I3, rfl, q2⟩
theorem ps_dput (hu : X.A.units + 1 < cLine) (ho : PE X o td) (hi : PE X i ty) (hv : PE X value tv) (hs : swapsWith value (some (.Subscript o i pos')) pos.line X.env = pure false) :
    PS X (.Assign [.Subscript o i pos'] value pos) (sDPut td ty tv) := by
  intro pins s σ H D I h
  refine wpAny_Assign_Subscript (thn (hv pins s σ H _ I h) fun r s1 ⟨v, H1, I1, rv, q1⟩ => thn (ho pins s1 σ H1 _ I1 q1) fun u s2 ⟨x, H2, I2, rx, q2⟩ => thn (hi pins s2 σ H2 _ I2 q2) fun iv s3 ⟨y, H3, I3, ry, a, H4, ex, g, q3⟩ => ?_) hs
  subst ex
  obtain rfl : u = Value.ref a := rx
  exact d_setItem hu I3 g ry rv fun s4 I4 => ⟨σ, H4, I4, q3⟩
end
theorem dk_empty {P : Program} {w : World} {H : Hp} (h : Heap) (hb : sysModules < h.objs.size) : ObjOk P w H (h.push { cls := .type "dict", data := .dict #[] }) h.objs.size (.dK []) :=
  ⟨Nat.zero_le _, beq_eq_false_iff_ne.mpr (Ne.symm (Nat.ne_of_lt hb)), [], .nil, Heap.DictOf.new h⟩
section
variable {X : Cx} {pos : Pos}
end
def tPairs : List (TE × TE) → St → Hp → (List (V × V) → Hp → Prop) → Prop
  | [], _, H, Q => Q [] H
  | (tk, tv) :: r, σ, H, Q => tk σ H fun x H1 => tv σ H1 fun y H2 => tPairs r σ H2 fun ps H3 => Q ((x, y) :: ps) H3
abbrev VV : List (V × V) → List (Value × Value) → Prop := Paired fun p q => RelV p.1 q.1 ∧ RelV p.2 q.2
def PPs (X : Cx) (pos : Pos) (keys : List (Option Expr)) (values : List Expr) (trs : List (TE × TE)) : Prop :=
  ∀ (pins : List (Addr × Obj)) (s : Shared) (σ : St) (H : Hp) (Q : List (V × V) → Hp → Prop), Inv X pins σ H s → tPairs trs σ H Q →
    wpAny (model X.prog X.w) X.A (evalPairs (pairTrees keys values X.env pos)) (fun vs s' => ∃ ps H', Inv X pins σ H' s' ∧ VV ps vs ∧ Q ps H') X.xe s
theorem pps_nil {X : Cx} {pos : Pos} : PPs X pos [] [] [] := fun pins s σ H Q I h => pairTrees_nil_walk ⟨[], H, I, .nil, h⟩
theorem pps_cons {X : Cx} {pos : Pos} {k v : Expr} {ks : List (Option Expr)} {vs : List Expr} {tk tv : TE} {trs : List (TE × TE)} (hk : PE X k tk) (hv : PE X v tv) (hr : PPs X pos ks vs trs) :
    PPs X pos (some k :: ks) (v :: vs) ((tk, tv) :: trs) := fun pins s σ H Q I h =>
  pairTrees_cons_walk (thn (hk pins s σ H _ I h) fun u s1 ⟨x, H1, I1, rx, q1⟩ => thn (hv pins s1 σ H1 _ I1 q1) fun w2 s2 ⟨y, H2, I2, ry, q2⟩ =>
    thn (hr pins s2 σ H2 _ I2 q2) fun ws s3 ⟨ps, H3, I3, rel, q3⟩ => ⟨(x, y) :: ps, H3, I3, .cons ⟨rx, ry⟩ rel, q3⟩)
def mergeK (kvs more : List (Key × V)) : List (Key × V) := more.foldl (fun acc kv => putK acc kv.1 kv.2) kvs
theorem KV.merge : ∀ {more : List (Key × V)} {rs : List (Key × Value)} {kvs : List (Key × V)} {vs : List (Key × Value)}, KV more rs → KV kvs vs → KV (mergeK kvs more) (merged vs rs) := by
  intro more rs kvs vs r
  unfold KV at r
  induction r generalizing kvs vs with
  | nil => intro q; exact q
  | @cons p q ps qs h t ih =>
    intro r0
    have e : KV (putK kvs p.1 p.2) (stored vs q.1 q.2) := by
      have := r0.put p.1 h.2
      rw [← h.1]; exact this
    exact ih e
theorem length_mergeK : ∀ (more kvs : List (Key × V)), (mergeK kvs more).length ≤ kvs.length + more.length
  | [], kvs => by show kvs.length ≤ kvs.length + 0; omega
  | p :: r, kvs => by
    have h1 := length_mergeK r (putK kvs p.1 p.2)
    have h2 := length_putK kvs p.1 p.2
    show (mergeK (putK kvs p.1 p.2) r).length ≤ _
    rw [List.length_cons]; omega
theorem carries_of {P : Program} {w : World} : ∀ {kvs : List (Key × V)} {ws : List (Value × Value)}, VV (kvs.map fun kv => (kV kv.1, kv.2)) ws → ∃ rs, Carries (mixKind P w) ws rs ∧ KV kvs rs
  | [], _, r => by rw [List.map_nil] at r; cases r; exact ⟨[], True.intro, .nil⟩
  | p :: kvs, _, r => by
    rw [List.map_cons] at r
    cases r with
    | @cons a b as bs h t =>
      obtain ⟨rs, c, q⟩ := carries_of (P := P) (w := w) t
      obtain ⟨b1, b2⟩ := b
      exact ⟨(p.1, b2) :: rs, ⟨kV_is h.1, rfl, c⟩, .cons ⟨rfl, h.2⟩ q⟩
def tDisp (trs : List (TE × TE)) : TE := fun σ H Q => ∀ p, H p = none → tPairs trs σ (upd H p (.dK [])) fun ps H2 => H2 p = some (.dK []) ∧ ∃ kvs : List (Key × V), ps = kvs.map (fun kv => (kV kv.1, kv.2)) ∧ kvs.length ≤ 15 ∧ Q (.ref p) (upd H2 p (.dK (mergeK [] kvs)))
theorem pe_disp {X : Cx} {pos : Pos} {keys : List (Option Expr)} {values : List Expr} {trs : List (TE × TE)} (h : PPs X pos keys values trs) (hall : keys.all (·.isSome) = true) (hl : keys.length = values.length) (h0 : keys ≠ [])
    (h15 : keys.length ≤ 15) : PE X (.Dict keys values pos) (tDisp trs) := by
  intro pins s σ H Q I q
  have hn := I.hok.fresh (Nat.le_refl s.heap.objs.size)
  have I1 := I.laid (a := s.heap.objs.size) (o := .dK []) (h' := s.heap.push { cls := .type "dict", data := .dict #[] }) (t' := s.toks) (fun _ _ q => Heap.get?_push_of_some _ q) (Nat.le_refl _) (dk_empty s.heap I.big)
  refine wpAny_Dict_walk (knd := mixKind X.prog X.w) hall hl h0 h15 (thn (h pins _ σ _ _ I1 (q _ hn)) fun ws s2 ⟨ps, H2, I2, rel, e, kvs, ep, lk, q2⟩ => ?_)
  subst ep
  obtain ⟨rs, c, rk⟩ := carries_of (P := X.prog) (w := X.w) rel
  obtain ⟨z, hd, vs0, r0, dd⟩ := dk_of I2.hok e
  cases r0
  refine ⟨rs, c, dd, fun h' dd' hs => ⟨.ref s.heap.objs.size, _, ?_, rfl, q2⟩⟩
  have hz : (mergeK [] kvs).length ≤ sizeLine := by
    have h1 := length_mergeK kvs []
    rw [List.length_nil] at h1
    rw [sizeLine_eq]; omega
  have he : ∃ q, h'.get? s.heap.objs.size = some q := let ⟨q, _, _, hq, _⟩ := dd'; ⟨q, hq⟩
  exact d_write I2 (by rw [e]; exact True.intro) hs he (dk_new hz hd (rk.merge .nil) dd')
section
variable {X : Cx} {pins : List (Addr × Obj)} {σ : St} {H : Hp} {s : Shared} {a : Addr} {y d : V} {u r : Value} {o : Option V} {A : Around} {E : Value → Shared → Prop}
end
section
variable {X : Cx} {o e f : Expr} {apos cpos : Pos} {td ty tx : TE}
end
section
variable {X : Cx} {pins : List (Addr × Obj)} {σ : St} {H : Hp} {s : Shared} {a : Addr} {kvs : List (Key × V)} {A : Around} {E : Value → Shared → Prop}
end
section
variable {X : Cx} {pins : List (Addr × Obj)} {σ : St} {H : Hp} {s : Shared} {a : Addr} {y : V} {u : Value} {A : Around} {E : Value → Shared → Prop}
end
end L2
set_option linter.all false
set_option maxRecDepth 100000
namespace L2
open PySem PySem.Spec PyProof.Rows
theorem bt_len : bootBuiltins "len" = some (.builtin "len") := by decide +kernel
theorem bt_isinstance : bootBuiltins "isinstance" = some (.builtin "isinstance") := by decide +kernel
theorem bt_all : bootBuiltins "all" = some (.builtin "all") := by decide +kernel
theorem bt_min : bootBuiltins "min" = some (.builtin "min") := by decide +kernel
theorem bt_sum : bootBuiltins "sum" = some (.builtin "sum") := by decide +kernel
theorem bt_sorted : bootBuiltins "sorted" = some (.builtin "sorted") := by decide +kernel
theorem bt_int : bootBuiltins "int" = some (.type "int") := by decide +kernel
theorem bt_bool : bootBuiltins "bool" = some (.type "bool") := by decide +kernel
theorem bt_tuple : bootBuiltins "tuple" = some (.type "tuple") := by decide +kernel
theorem bt_list : bootBuiltins "list" = some (.type "list") := by decide +kernel
theorem bt_set : bootBuiltins "set" = some (.type "set") := by decide +kernel
theorem iteN {c A B : Prop} [Decidable c] (hc : ¬ c) (h : B) : if c then A else B := by rw [if_neg hc]; exact h
theorem iteP {c A B : Prop} [Decidable c] (hc : c) (h : A) : if c then A else B := by rw [if_pos hc]; exact h
theorem take_map_succ {α β : Type} (f : α → β) {l : List α} {i : Nat} {x : α} (h : l[i]? = some x) : (l.take (i + 1)).map f = (l.take i).map f ++ [f x] := by
  rw [List.take_add_one, h, List.map_append]; rfl
theorem zip_get {α β : Type} {l : List α} {r : List β} {i : Nat} {x : α} {y : β} (h : l[i]? = some x) (h' : r[i]? = some y) : (l.zip r)[i]? = some (x, y) := by
  rw [List.getElem?_zip_eq_some]; exact ⟨h, h'⟩
theorem map_get {ns : List Int} {i : Nat} {v : V} (h : (ns.map V.int)[i]? = some v) : ∃ z, v = .int z ∧ ns[i]? = some z := by
  rw [List.getElem?_map] at h
  obtain ⟨z, hz, rfl⟩ := Option.map_eq_some_iff.mp h
  exact ⟨z, rfl, hz⟩
theorem atI_ints {ns : List Int} {i : Int} (h0 : 0 ≤ i) (h1 : i < ns.length) : atI (ns.map V.int) i = some (.int (ns.getD i.toNat 0)) := by
  obtain ⟨j, rfl⟩ : ∃ j : Nat, i = (j : Int) := ⟨i.toNat, by omega⟩
  refine atI_nat ?_
  rw [List.getElem?_map, Int.toNat_natCast, List.getD_eq_getElem?_getD, List.getElem?_eq_getElem (show j < ns.length by omega)]; rfl
theorem filter_take_succ {α : Type} (f : α → Bool) {l : List α} {i : Nat} {x : α} (h : l[i]? = some x) : (l.take (i + 1)).filter f = (l.take i).filter f ++ (if f x then [x] else []) := by
  rw [List.take_add_one, h, List.filter_append]
  congr 1
  simp only [Option.toList_some, List.filter_cons, List.filter_nil]
section
variable {X : Cx}
def rLen (K : PySem.W.Frag) : List V → Hp → VK → Prop := fun xs H Q => ∃ p ys, xs = [.ref p] ∧ (SqL K H p ys ∨ SqT K H p ys) ∧ Q (.int ys.length) H
theorem call_lenK : CallR X (.builtin "len") (rLen X.K) := call_len_seq
def rTupOf (K : PySem.W.Frag) : List V → Hp → VK → Prop := fun xs H Q => ∃ p ys, xs = [.ref p] ∧ ((SqL K H p ys ∧ ∀ l, H l = none → Q (.ref l) (upd H l (.tup ys))) ∨ (SqT K H p ys ∧ Q (.ref p) H))
theorem call_tupleK : CallR X (.type "tuple") (rTupOf X.K) := call_tuple_of
def rInt1 : List V → Hp → VK → Prop := fun xs H Q => (∃ i, xs = [.int i] ∧ Q (.int i) H) ∨ ∃ k, xs = [.bl k] ∧ Q (.int (if k then 1 else 0)) H
theorem call_intK : CallR X (.type "int") rInt1 := call_int1
theorem sys_of {ns : List Int} (hp : ns.Pairwise (· < ·)) (h1 : (1 : Int) ∈ ns) (hpos : ∀ z ∈ ns, 1 ≤ z ∧ z ≤ 200) (hl : ns.length ≤ 8) : TM.IsSys ns := by
  refine ⟨?_, hpos, hp, hl⟩
  cases ns with
  | nil => cases h1
  | cons a r =>
    rcases List.mem_cons.mp h1 with e | e
    · rw [← e]; rfl
    · have := (List.pairwise_cons.mp hp).1 1 e
      have := (hpos a List.mem_cons_self).1
      omega
theorem lt_of_le {ns : List Int} (h : ns.Pairwise (· ≤ ·)) (hn : ns.Nodup) : ns.Pairwise (· < ·) := by
  refine List.Pairwise.imp (fun {a b} (x : a ≤ b ∧ a ≠ b) => ?_) (h.and hn)
  omega
theorem atI_neg1 {fs : List Int} (h : fs ≠ []) : ∃ z ∈ fs, atI (fs.map V.int) (-1) = some (.int z) := by
  refine ⟨fs.getLast h, List.getLast_mem h, ?_⟩
  have e : fs.map V.int = fs.dropLast.map V.int ++ [V.int (fs.getLast h)] := by
    conv => lhs; rw [← List.dropLast_concat_getLast h]
    rw [List.map_append]; rfl
  rw [e]
  exact atI_last _ _
theorem sys_end {D : Ends} {σ : St} {H' : Hp} {q : Addr} {fs : List Int} {i : Nat} (hσ : σ[i]? = some (some (.ref q))) (hq : H' q = some (.lst (fs.map V.int))) (hl : fs.length ≤ 8) (h1 : (1 : Int) ∈ fs) (hpos : ∀ z ∈ fs, 1 ≤ z ∧ z ≤ 200)
    (k : ∀ (l : Addr) (ns : List Int) H'', Same H' H'' → TM.IsSys ns → H'' l = some (.tup (ns.map V.int)) → D.rt (.ref l) H'') :
    tRet (tCB (rTupOf X.K) (tCons (tCB (rSortedSet X) (tCons (tCB (rSet X) (tCons (tVar i) tNil)) tNil)) tNil)) D σ H' := by
  refine ⟨_, hσ, q, fs, rfl, SqL.of hq, by omega, fun r ks hr hnd hm hkl => ⟨r, ks, rfl, upd_same, by omega, fun l ns hln hp hpw => ⟨l, _, rfl, .inl ⟨SqL.of upd_same, fun p hp' => ?_⟩⟩⟩⟩
  have s1 : Same H' (upd H' r (setHO X r ks)) := Same.upd hr
  have s2 := s1.trans (Same.upd (o := .lst (ns.map V.int)) hln)
  have s3 := s2.trans (Same.upd (o := .tup (ns.map V.int)) hp')
  refine k p ns _ s3 (sys_of (lt_of_le hpw (hp.nodup_iff.mpr hnd)) ?_ (fun z hz => hpos z ((hm z).mp (hp.mem_iff.mp hz))) (by rw [hp.length_eq]; omega)) upd_same
  exact hp.mem_iff.mpr ((hm 1).mpr h1)
theorem pe_const {x : Str} {i : Int} {pos : Pos} (hg : Gl X x) (hm : ∃ t, X.mg x = some (.int i t)) (hd : (x == ("__debug__" : Str)) = false := by decide) : PE X (.Name x pos) (tC (.int i)) := by
  obtain ⟨t, e⟩ := hm
  exact pe_glob hg e ⟨t, rfl⟩ hd
theorem pe_tyn {x : Str} {T : String} {pos : Pos} (hg : Gl X x) (hm : X.mg x = none) (hv : bootBuiltins x = some (.type T)) (hn : x ≠ "__name__" := by decide) (hd : (x == ("__debug__" : Str)) = false := by decide) : PE X (.Name x pos) (tC (.ty T)) := pe_bltn hg hm hv rfl hn hd
end
end L2
set_option linter.all false
set_option maxRecDepth 100000
namespace HT
open PySem PySem.Calls PyProof.Rows
section
variable {prog : Program} {w : World} {A : Around} {E : Value → Shared → Prop} {s : Shared}
theorem getItem_tuple_all {t sl : Addr} {items : Array Value} {vl vu : Value} {lo hi : Option Int} {Q : Value → Shared → Prop} (ht : IsTup s.heap t items) (hs : s.heap.IsSliceOf sl vl vu .none) (pl : IsPart vl lo) (pu : IsPart vu hi)
    (hw : sIx items.size 0 lo = 0 ∧ sIx items.size items.size hi = items.size)
    (h : Q (.ref t) s) (hsz : items.size ≤ sizeLine) : wpAny (model prog w) A (getItem (.ref t) (.ref sl)) Q E s := by
  obtain ⟨os, hos, hcs, hds⟩ := id hs
  have hTs : s.TypeIs (.ref sl) "slice" := ⟨os, hos, hcs⟩
  unfold getItem
  try with_reducible refine wpAny_holding ?_
  first | refine wpAny_bind (wpAny_pure ?_) | skip
  refine wpAny_bind (wpAny_sequenceKey ht.typeIs (by decide) ?_)
  refine wpAny_bind (wpAny_callSpecial?_slot (name := Str.ofString "__getitem__") ht.typeIs PyProof.Rows.slot_tuple_getitem
    (wpAny_call_entry PyProof.Rows.slot_tuple_getitem ht.typeIs entry_tuple_getitem ?_ (args_tuple_getitem _ _)))
  show wpAny _ _ (Builtin.Tuple.tupleItemsOf (.ref t) >>= _) _ _ s
  refine wpAny_bind (tupleItemsOf_ ht ?_)
  refine wpAny_bind (wpAny_typeOf hTs ?_)
  rw [if_pos (by decide)]
  refine wpAny_bind (sliceApplied_gen hs pl pu ?_)
  have hyes : (((sIx items.size 0 lo : Nat) : Int) == 0 && (1 : Int) == 1 && (sIx items.size items.size hi - sIx items.size 0 lo) == items.size) = true := by
    rw [hw.1, hw.2]; simp
  show wpAny _ _ (if (((sIx items.size 0 lo : Nat) : Int) == 0 && (1 : Int) == 1 && (sIx items.size items.size hi - sIx items.size 0 lo) == items.size) = true then _ else _) _ _ s
  rw [if_pos hyes]
  unfold Builtin.Tuple.tupleIsExact
  refine wpAny_bind (wpAny_bind (wpAny_typeOf ht.typeIs (wpAny_pure ?_)))
  rw [if_pos (by decide)]
  first
    | exact wpAny_bind (wpAny_rule (wpAny_pure ⟨_, rfl, wpAny_pure h⟩))
    | exact wpAny_bind (wpAny_rule (wpAny_bind (wpAny_pure (wpAny_pure ⟨_, rfl, wpAny_pure h⟩))))
end
end HT
namespace L2
open PySem PySem.Spec PyProof.Rows
section
variable {X : Cx} {e : Expr} {te : TE} {pos p2 : Pos}
def rSlA (K : PySem.W.Frag) : V → Option Int → Option Int → Hp → VK → Prop := fun x lo hi H Q => ∃ a xs, x = .ref a ∧ SqT K H a xs ∧
  ((HT.sIx xs.length 0 lo = 0 ∧ HT.sIx xs.length xs.length hi = xs.length) → Q (.ref a) H) ∧
  (¬ (HT.sIx xs.length 0 lo = 0 ∧ HT.sIx xs.length xs.length hi = xs.length) → ∀ p, H p = none → Q (.ref p) (upd H p (.tup (cutV xs lo hi))))
theorem sl_tupA : SlR X (rSlA X.K) := by
  intro pins s σ H x v vl vu lo hi sl Q I rx hs pl pu h
  obtain ⟨a, xs, rfl, hx, q1, q2⟩ := h
  by_cases hw : (HT.sIx xs.length 0 lo = 0 ∧ HT.sIx xs.length xs.length hi = xs.length)
  · cases rx
    obtain ⟨its, r, ht, hz⟩ := I.tuple hx
    have hlen : its.toArray.size = xs.length := by rw [List.size_toArray]; exact r.length.symm
    refine ⟨"tuple", _, PyProof.Rows.slot_tuple_getitem.lookup, ht.typeIs, ?_⟩
    exact HT.getItem_tuple_all ht hs pl pu (by rw [hlen]; exact hw) ⟨.ref a, H, I, rfl, q1 hw⟩ (by rw [hlen]; exact hz)
  · exact sl_tup pins s σ H _ v vl vu lo hi sl Q I rx hs pl pu ⟨a, xs, rfl, hx, hw, q2 hw⟩
end
end L2
set_option linter.all false
set_option maxRecDepth 100000
namespace L2
open PySem PySem.Spec PyProof.Rows
section
variable {prog : Program} {w : World} {A : Around} {R : Result → Shared → Prop} {I : Addr} {fp wr : List Addr} {n : Nat} {P : Nat → Value → Prop} {St : Nat → Heap → Prop} {kws : List (Str × Value)}
end
section
variable {X : Cx} {x : Str} {p pos kpos : Pos} {e dx : Expr} {t tk : TA}
end
end L2
set_option linter.all false
set_option maxRecDepth 100000
namespace L2
open PySem PySem.Spec PyProof.Rows
section
variable {X : Cx}
theorem cutV_whole {xs : List V} {lo hi : Option Int} (h : HT.sIx xs.length 0 lo = 0 ∧ HT.sIx xs.length xs.length hi = xs.length) : cutV xs lo hi = xs := by
  unfold cutV
  rw [h.1, h.2, List.drop_zero, Nat.sub_zero, List.take_length]
def rSlU : V → Option Int → Option Int → Hp → VK → Prop := fun x lo hi H Q => ∃ a xs, x = .ref a ∧ H a = some (.tup xs) ∧ ∀ b H', Same H H' → H' b = some (.tup (cutV xs lo hi)) → Q (.ref b) H'
theorem sl_tupU : SlR X rSlU := by
  intro pins s σ H x v vl vu lo hi sl Q I rx hs pl pu h
  obtain ⟨a, xs, rfl, hx, q⟩ := h
  exact sl_tupA pins s σ H _ v vl vu lo hi sl Q I rx hs pl pu ⟨a, xs, rfl, SqT.of hx, fun hw => q a H (Same.refl _) (by rw [cutV_whole hw]; exact hx), fun _ p hp => q p _ (Same.upd hp) upd_same⟩
def rCatU : R2 := fun x y H Q => ∃ a b xs ys, x = .ref a ∧ y = .ref b ∧ H a = some (.tup xs) ∧ H b = some (.tup ys) ∧ xs ≠ [] ∧ xs.length + ys.length ≤ sizeLine ∧ ∀ p H', Same H H' → H' p = some (.tup (xs ++ ys)) → Q (.ref p) H'
theorem op_catU : OpR X (binaryOp .Add) rCatU := by
  intro pins s σ H x y v u Q I rx ry h
  obtain ⟨a, b, xs, ys, rfl, rfl, ha, hb, hne, hl, q⟩ := h
  exact op_catT pins s σ H _ _ v u Q I rx ry ⟨a, b, xs, ys, rfl, rfl, SqT.of ha, SqT.of hb, hne, hl, fun z => q a H (Same.refl _) (by rw [z, List.append_nil]; exact ha), fun _ p hp => q p _ (Same.upd hp) upd_same⟩
end
end L2
set_option linter.all false
set_option maxRecDepth 100000
namespace L2
open PySem PySem.Spec PyProof.Rows
theorem eqv_same {d : PyData} (h : PyData.canLay0 d = true) : PyData.eqv d d = true := SeqAt.eqv_refl d h
def dT (rows : List (List Int)) : List PyData := rows.map fun r => .tuple (dI r)
end L2
set_option linter.all false
set_option maxRecDepth 100000
namespace L2
open PySem PySem.Spec PyProof.Rows
theorem ObjOk.there {P : Program} {w : World} {H : Hp} {h : Heap} {a : Addr} {o : HO} (x : ObjOk P w H h a o) : ∃ u, h.get? a = some u := by
  cases o with
  | lst xs => obtain ⟨_, _, _, _, e⟩ := x; exact ⟨_, e⟩
  | tup xs => obtain ⟨_, _, _, o, e, _⟩ := x; exact ⟨_, e⟩
  | dK kvs => obtain ⟨_, _, _, _, o, _, _, e, _⟩ := x; exact ⟨_, e⟩
  | dT kvs => obtain ⟨_, _, _, _, o, _, _, e, _⟩ := x; exact ⟨_, e⟩
  | set S n => obtain ⟨o, _, _, _, e, _⟩ := x; exact ⟨_, e⟩
  | ins C dx fs => obtain ⟨_, _, _, e, _⟩ := x; exact ⟨_, e⟩
  | own y => obtain ⟨_, e⟩ := x; exact ⟨_, e⟩
  | xd fs => obtain ⟨_, ⟨_, _, _, e, _⟩, _⟩ := x; exact ⟨_, e⟩
  | rng lo hi => obtain ⟨_, _, _, e⟩ := x; exact ⟨_, e⟩
  | frz ob u => obtain ⟨e, _⟩ := x; exact ⟨_, e⟩
  | tbl ps => exact ⟨_, (show h.get? a = some _ from x)⟩
  | met f y => exact ⟨_, (show h.get? a = some _ from x)⟩
  | ext φ => obtain ⟨_, ⟨_, e⟩, _⟩ := x; exact ⟨_, e⟩
structure Flies (P : Program) (w : World) (base : Heap) (outer : List Env) (H : Hp) (h : Heap) (ea : Addr) (cls a0 : Value) (H' : Hp) (B h' : Heap) : Prop where
  hok : HOk P w H' h'
  un : Un (frs outer) [] H H' h h'
  fly : Heap.FlyingW B outer ea cls a0 h'
  trk : ∀ b o, H' b = some o → ∃ u, B.get? b = some u
  bas : ∀ b o, base.get? b = some o → B.get? b = some o
  thr : ∀ b o, h.get? b = some o → b ∉ frs outer → ∃ u, B.get? b = some u
def CX1 (P : Program) (w : World) (base : Heap) : CXT := fun outer H s E e s' =>
  ∃ (ea : Addr) (cls a0 : Value) (H' : Hp) (B : Heap), e = .ref ea ∧ s'.os = s.os ∧ AllBare s'.gens ∧ Flies P w base outer H s.heap ea cls a0 H' B s'.heap ∧ E cls none H'
theorem passN {P : Program} {w : World} {base : Heap} {X : Cx} : Passes (CX1 P w base) X E0 := fun _ _ _ _ _ _ _ h => by
  obtain ⟨_, _, _, _, _, _, _, _, _, z⟩ := h
  exact z.elim
theorem hok_stays {P : Program} {w : World} {H : Hp} {h h' B : Heap} (hok : HOk P w H h) (trk : ∀ b o, H b = some o → ∃ u, B.get? b = some u) (s1 : B.StaysIn h) (s2 : B.StaysIn h') : HOk P w H h' := fun a o e =>
  (hok a o e).stay (fun b u hb q => by
    have : ∃ u', B.get? b = some u' := by
      rcases hb with rfl | hb
      · exact trk _ _ e
      · exact trk _ _ hb
    obtain ⟨u', e'⟩ := this
    have := s1 b u' e'
    rw [q] at this
    cases this
    exact s2 b _ e') (fun _ q => q) fun _ _ q => q
section
variable {X : Cx} {pins : List (Addr × Obj)} {σ : St} {H : Hp} {s : Shared}
theorem Inv.old_ne (I : Inv X pins σ H s) {b : Addr} {o : Obj} (e : X.s₀.heap.get? b = some o) : b ≠ X.env.locals :=
  Nat.ne_of_lt (Nat.lt_of_lt_of_le (Heap.lt_size e) I.ok.above)
theorem frs_cons {env : Env} {outer : List Env} {L : Addr} (h : env.frame = some L) : frs (env :: outer) = L :: frs outer := by unfold frs; rw [List.filterMap_cons, h]
end
section
variable {P : Program} {w : World} {K : PySem.W.Frag} {mg : Str → Option Value} {base : Heap} {N : List Str} {qual : Str} {scope : Scope} {f : Addr} {cd : Value} {A : Around} {outer : List Env} {s₀ : Shared} {H₀ : Hp} {E : XK}
abbrev cx1 (P : Program) (w : World) (K : PySem.W.Frag) (mg : Str → Option Value) (base : Heap) (N : List Str) (qual : Str) (scope : Scope) (f : Addr) (cd : Value) (A : Around) (outer : List Env) (s₀ : Shared) (H₀ : Hp) (E : XK) : Cx :=
  cxOf (CX1 P w base) P w K mg base N qual scope f cd A outer s₀ H₀ E
theorem passX : Passes (CX1 P w base) (cx1 P w K mg base N qual scope f cd A outer s₀ H₀ E) E := by
  intro pins σ H s e s' I h
  obtain ⟨ea, cls, a0, H', B, rfl, os, gb, F, q⟩ := h
  have hf : (envOfC qual scope s₀.heap.objs.size f cd).frame = some s₀.heap.objs.size := rfl
  have hfs : frs (cx1 P w K mg base N qual scope f cd A outer s₀ H₀ E).stack = s₀.heap.objs.size :: frs outer := frs_cons hf
  have nx : ∀ b : Addr, b ∉ (cx1 P w K mg base N qual scope f cd A outer s₀ H₀ E).ex := fun b z => absurd (show b ∈ ([] : List Addr) from z) (by simp)
  refine wpAny_leaves_onW (L := s₀.heap.objs.size) I.ok.frames hf F.fly fun h'' fl us => ?_
  refine ⟨ea, cls, a0, H', B, rfl, os.trans I.os, gb, ⟨?_, ?_, fl, F.trk, F.bas, ?_⟩, q⟩
  · exact hok_stays F.hok F.trk F.fly.1 fl.1
  · have slotF : ∀ b o, s₀.heap.get? b = some o → H₀ b = none → b ∈ frs outer → ∃ sl, h''.get? b = some { o with slots := sl } := fun b o e n hb => by
      obtain ⟨sl, e1⟩ := I.base.slot b o e n hb (nx b)
      obtain ⟨sl2, e2⟩ := F.un.slot b _ e1 (I.base.free b o e n (nx b)) (by rw [hfs]; exact List.mem_cons_of_mem _ hb) (by simp)
      obtain ⟨_, o', ho', hd⟩ := I.ok.funs.mem hb
      have e3 : o = o' := Option.some.inj (e.symm.trans ho')
      subst e3
      obtain ⟨sl3, e4⟩ := us b _ e2 hd
      exact ⟨sl3, e4⟩
    have inB : ∀ b o, s₀.heap.get? b = some o → b ∉ frs outer → ∃ u, B.get? b = some u := fun b o e hb => by
      obtain ⟨o', e1⟩ := I.base.there b o e (nx b)
      refine F.thr b o' e1 ?_
      rw [hfs]
      intro z
      rcases List.mem_cons.mp z with z | z
      · exact I.old_ne e z
      · exact hb z
    refine ⟨fun b o e n hb _ => ?_, fun b o e n hb _ => slotF b o e n hb, fun b o e n _ => ?_, fun b o e _ => ?_, fun b xs e => F.un.tups b xs (I.base.tups b xs e), fun b o u e => F.un.frzs b o u (I.base.frzs b o u e), fun b ps e => ?_⟩
    · obtain ⟨u, hu⟩ := inB b o e hb
      have e1 := I.base.keep b o e n hb (nx b)
      have e2 := F.un.keep b o e1 (I.base.free b o e n (nx b)) (by
        rw [hfs]
        intro z
        rcases List.mem_cons.mp z with z | z
        · exact I.old_ne e z
        · exact hb z) (by simp)
      have e3 := F.fly.1 b u hu
      rw [e2] at e3
      cases e3
      exact fl.1 b _ hu
    · obtain ⟨o', e1⟩ := I.base.there b o e (nx b)
      exact F.un.free b o' e1 (I.base.free b o e n (nx b)) (by simp)
    · by_cases hb : b ∈ frs outer
      · obtain ⟨sl, e1⟩ := slotF b o e (I.ok.frf b hb) hb
        exact ⟨_, e1⟩
      · obtain ⟨u, hu⟩ := inB b o e hb
        exact ⟨u, fl.1 b u hu⟩
    · obtain ⟨m1, e1⟩ := I.base.tbls b ps e
      obtain ⟨m2, e2⟩ := F.un.tbls b _ e1
      exact ⟨m1 ++ m2, by rw [e2, Array.append_assoc]⟩
  · intro b o e hb
    obtain ⟨o', e1⟩ := I.base.there b o e (nx b)
    refine F.thr b o' e1 ?_
    rw [hfs]
    intro z
    rcases List.mem_cons.mp z with z | z
    · exact I.old_ne e z
    · exact hb z
def Raises (X : Cx) (E : XK) : Prop := ∀ (pins : List (Addr × Obj)) (σ : St) (H : Hp) (s : Shared) (C ea : Addr) (h' : Heap) (args : List Value), Inv X pins σ H s → Heap.MadeExcOf s.heap h' ea (.ref C) args → E (.ref C) none H → X.xe (.ref ea) { s with heap := h' }
theorem raisesX : Raises (cx1 P w K mg base N qual scope f cd A outer s₀ H₀ E) E := by
  intro pins σ H s C ea h' args I hx q
  have hf : (envOfC qual scope s₀.heap.objs.size f cd).frame = some s₀.heap.objs.size := rfl
  have hfs : frs (cx1 P w K mg base N qual scope f cd A outer s₀ H₀ E).stack = s₀.heap.objs.size :: frs outer := frs_cons hf
  have nx : ∀ b : Addr, b ∉ (cx1 P w K mg base N qual scope f cd A outer s₀ H₀ E).ex := fun b z => absurd (show b ∈ ([] : List Addr) from z) (by simp)
  have hB : (PySem.W.hideAll s.heap (frs (cx1 P w K mg base N qual scope f cd A outer s₀ H₀ E).stack)).StaysIn s.heap := fun b o e => PySem.W.of_hideAll _ e
  have inB : ∀ b o, s.heap.get? b = some o → b ∉ frs (cx1 P w K mg base N qual scope f cd A outer s₀ H₀ E).stack → (PySem.W.hideAll s.heap (frs (cx1 P w K mg base N qual scope f cd A outer s₀ H₀ E).stack)).get? b = some o := fun b o e hb => PySem.W.hideAll_get _ e hb
  generalize hBd : PySem.W.hideAll s.heap (frs (cx1 P w K mg base N qual scope f cd A outer s₀ H₀ E).stack) = B at hB inB
  have hl : s.heap.FunFrames B (envOfC qual scope s₀.heap.objs.size f cd :: outer) := by
    rw [← hBd]
    refine PySem.W.funFrames_hide I.stack fun env he a ha => ?_
    exact List.mem_filterMap.mpr ⟨env, he, ha⟩
  have old : ∀ {b : Addr} {o : Obj}, s₀.heap.get? b = some o → b ∉ frs outer → b ∉ frs (cx1 P w K mg base N qual scope f cd A outer s₀ H₀ E).stack := fun {b o} e hb => by
    rw [hfs]
    intro z
    rcases List.mem_cons.mp z with z | z
    · exact I.old_ne e z
    · exact hb z
  refine wpAny_leaves_madeW (L := s₀.heap.objs.size) (h := s.heap) I.ok.frames hf hB hl hx fun h'' t fl _ _ us => ?_
  have trk : ∀ b o, H b = some o → ∃ u, B.get? b = some u := fun b o e => by
    obtain ⟨u, hu⟩ := (I.hok b o e).there
    refine ⟨u, inB b u hu fun z => ?_⟩
    rw [I.stkFree b z] at e; cases e
  have slotF : ∀ b o, s₀.heap.get? b = some o → H₀ b = none → b ∈ frs outer → ∃ sl, h''.get? b = some { o with slots := sl } := fun b o e n hb => by
    obtain ⟨sl, e1⟩ := I.base.slot b o e n hb (nx b)
    obtain ⟨_, o', ho', hd⟩ := I.ok.funs.mem hb
    have e3 : o = o' := Option.some.inj (e.symm.trans ho')
    subst e3
    obtain ⟨sl3, e4⟩ := us b _ (hx.keeps _ _ e1) hd
    exact ⟨sl3, e4⟩
  refine ⟨ea, .ref C, _, H, B, rfl, I.os, I.bare, ⟨hok_stays I.hok trk hB fl.1, ?_, fl, trk, fun b o e => inB b o (I.bk b o e) ?_, fun b o e hb => ?_⟩, q⟩
  · refine ⟨fun b o e n hb _ => ?_, fun b o e n hb _ => slotF b o e n hb, fun b o e n _ => I.base.free b o e n (nx b), fun b o e _ => ?_, I.base.tups, I.base.frzs, I.base.tbls⟩
    · exact fl.1 b o (inB b o (I.base.keep b o e n hb (nx b)) (old e hb))
    · by_cases hb : b ∈ frs outer
      · obtain ⟨sl, e1⟩ := slotF b o e (I.ok.frf b hb) hb
        exact ⟨_, e1⟩
      · obtain ⟨o', e1⟩ := I.base.there b o e (nx b)
        exact ⟨o', fl.1 b o' (inB b o' e1 (old e hb))⟩
  · rw [hfs]
    intro z
    rcases List.mem_cons.mp z with z | z
    · exact I.old_ne (I.ok.bs b o e).1 z
    · exact I.ok.nofr e z
  · obtain ⟨o', e1⟩ := I.base.there b o e (nx b)
    exact ⟨o', inB b o' e1 (old e hb)⟩
end
theorem Fun.okX {P : Program} {w : World} {K : PySem.W.Frag} {mg : Str → Option Value} {base : Heap} {x qual : Str} {st : Stmt} {f : Addr} {fd : FuncData} {N ps : List Str} {k : Nat} {sp : Sp} (F : Fun K x qual st f fd) (S : FnScope N ps (defScope st)) (len : ∀ vs H Q E, sp vs H Q E → vs.length = ps.length)
    (hbody : ∀ (cdv : Value) (A : Around) (outer : List Env) (s : Shared) (H : Hp) (vs : List V) (Q : VK) (E : XK), Room k (A.deeper (envOfC qual (defScope st) s.heap.objs.size f cdv)) → sp vs H Q E →
      ∃ t, PSs (cx1 P w K mg base N qual (defScope st) f cdv A outer s H E) (defBody st) t ∧ t { nx := fun _ H' => Q .non H', rt := Q } (start N vs) H) : FnOk P w K mg base (CX1 P w base) (k + 1) f fd ps sp := by
  obtain ⟨oc, od, kV, doc, pm, an, cdv, ct, osl, rfl, lk, hcd⟩ := F.ex
  exact fn_of lk hcd S len fun A outer s H vs Q E hr hsp => hbody cdv A outer s H vs Q E hr hsp
theorem PS.nox {X : Cx} {st : Stmt} {t : TS} (h : PS X.nox st t) : PS X st t := fun pins s σ H D I hw =>
  wpAny_mono (h pins s σ H D (I.wish _) hw) (fun _ _ q => q.unwish) fun _ _ z => False.elim z
abbrev bmVE : List Value := [.type "ValueError", .type "Exception", .type "BaseException", .type "object"]
theorem exc_obj {K : PySem.W.Frag} {h₀ : Heap} {C : Addr} {bmB : List Value} {newId : String} (X : K.In h₀) (q : PySem.W.excIn K C bmB newId = true) :
    ∃ tl N nm qn bs hdct sn sub ab col dd k0 k1 k2 k3 k5 mN, h₀.get? C = some (excClassObj nm qn C N bs tl hdct sn sub ab col dd k0 k1 k2 k3 k5 newId) ∧ h₀.Ns N mN ∧ mN "__init__" = none ∧ OwnTail h₀ bmB tl := by
  unfold PySem.W.excIn at q
  split at q
  · rename_i dd cd sl ho
    split at q
    · rename_i C' bm k0 k1 k2 k3 n k5 hm hs
      simp only [Bool.and_eq_true, beq_iff_eq, Bool.not_eq_true'] at q
      obtain ⟨⟨⟨⟨⟨rfl, rfl⟩, hdel⟩, ht⟩, hok⟩, hni⟩ := q
      obtain ⟨nm, bs, mro, ns, qn, hd, sn, sub, ab, col, del⟩ := cd
      dsimp only at hm hdel hok hni
      subst hm hdel
      obtain rfl : sl = #[k0, k1, k2, k3, some (.builtin n), k5] := by obtain ⟨l⟩ := sl; simp only at hs; rw [hs]
      exact ⟨bm, ns, nm, qn, bs, hd, sn, sub, ab, col, dd, k0, k1, k2, k3, k5, _, X _ _ ho, .of_isNs (PySem.W.isNs_of_in X hok), PySem.W.nsMap_none_of_in X hok hni, PySem.W.tail_of_in X ht⟩
    · cases q
  · cases q
section
variable {X : Cx} {E : XK} {x : Str} {C : Addr} {e : Expr} {te : TE} {np cpos pos : Pos}
def tRaise (C : Addr) (E : XK) (te : TE) : TS := fun _ σ H => te σ H fun x H1 => ([x] : List V).length = 1 ∧ E (.ref C) none H1
theorem ps_raise (hE : Raises X E) (hcalm : X.calm = true) (hg : Gl X x) (hm : X.mg x = some (.ref C)) (hc : PySem.W.excIn X.K C bmVE "ValueError.__new__" = true) (he : PE X e te) (hd : (x == ("__debug__" : Str)) = false := by decide)
    (hs : starEach [e] X.env = [(false, eval e X.env)] := by rfl) : PS X (.Raise (some (.Call (.Name x np) [e] [] cpos)) none pos) (tRaise C E te) := by
  intro pins s σ H D I h
  obtain ⟨tl, N, nm, qn, bs, hdct, sn, sub, ab, col, dd, k0, k1, k2, k3, k5, mN, hC, hN, hni, T⟩ := exc_obj I.ok.mod.kin hc
  have FB := PySem.F.excBase_ValueError
  refine wpAny_Raise_call_subT (C := C) (nm := nm) (q := qn) (N := N) (bs := bs) (bm := tl) (hdct := hdct) (sn := sn) (sub := sub) (ab := ab) (col := col) (dd := dd) (k0 := k0) (k1 := k1) (k2 := k2) (k3 := k3) (k5 := k5)
    FB (mN := mN) (T.hasType FB.hasBase) (I.ok.hd hcalm) (by rw [hs]; rfl) hni (ld_glob I hg hm ⟨rfl, ?_⟩ hd)
  have hb : backTo cpos (starEach [e] X.env) = (false, eval e X.env) :: backTo cpos (starEach [] X.env) := by rw [hs]; rfl
  rw [hb]
  refine Calls.evalArgs_plain ?_
  rw [← hb]
  have hp : PA X [e] (tCons te tNil) := pa_cons he pa_nil (by rw [hs]; rfl)
  refine thn (hp cpos pins s σ H (fun us H1 => us.length = 1 ∧ E (.ref C) none H1) I ?_) fun us s1 ⟨vs, H1, I1, r, q1⟩ => ?_
  · exact h
  · exact ⟨rfl, by rw [← r.length, q1.1]; decide, I1.bk _ _ hC, hN.keeps I1.bk, T.keeps I1.bk, fun h' ea hx => hE pins σ H1 s1 C ea h' _ I1 hx q1.2⟩
end
end L2
set_option linter.all false
set_option maxRecDepth 100000
namespace L2
open PySem PySem.Spec PySem.W PyProof.Rows PySem.Builtin PySem.Builtin.ObjectAttr PySem.Builtin.Getset_descriptor PySem.Calls
structure ExcCls (K : Frag) (C : Addr) : Prop where
  ga : findIn K (.ref C) "__getattribute__" = some (some (.builtin "BaseException.__getattribute__"))
  gt : findIn K (.ref C) "__getattr__" = some none
  cl : findIn K (.ref C) "__class__" = some (some (.builtin "object.__class__"))
  sp : specialIn K (.builtin "object.__class__") "__get__" = some (some (.builtin "getset_descriptor.__get__"))
  tk : takesIn K (.builtin "object.__class__") = some true
  mo : mroIn K C (.type "object") = some true
  mb : mroIn K C (.type "BaseException") = some true
section
variable {prog : Program} {w : World} {A : Around} {E : Value → Shared → Prop} {s : Shared} {K : Frag} {x C : Addr} {ox : Obj}
theorem exc_type {M : Model} {h : Heap} (hx : h.get? x = some ox) (hc : ox.cls = .ref C) : Looks M h (typeOf (.ref x)) (.ref C) := hc ▸ (Looks.ld hx).andThen .now
theorem exc_find {M : Model} {h : Heap} (X : K.In h) (T : ExcCls K C) : Looks M h (find (.ref x) (.ref C) "__class__") (.bind (.builtin "getset_descriptor.__get__") (.builtin "object.__class__")) := by
  have L1 := looks_findIn (M := M) X T.cl
  have L2 : Looks M h (getOf (some (.builtin "object.__class__"))) (some (.builtin "getset_descriptor.__get__")) := looks_specialIn X T.sp
  have L3 := looks_takesIn (M := M) X T.tk
  refine L1.andThen (L2.andThen ?_)
  exact (show Looks M h (dataDescriptor? (some (.builtin "object.__class__")) (some (.builtin "getset_descriptor.__get__"))) (some (.builtin "getset_descriptor.__get__", .builtin "object.__class__")) from L3.andThen .now).andThen (Looks.tag .now)
theorem exc_get {R : Result → Shared → Prop} (X : K.In s.heap) (T : ExcCls K C) (hx : s.heap.get? x = some ox) (hc : ox.cls = .ref C) (h : R (.ok (.ret (.ref C))) s) :
    codeAny (model prog w) A (.call (.builtin "getset_descriptor.__get__") ⟨[.builtin "object.__class__", .ref x, .ref C], []⟩) R s := by
  obtain ⟨hh, g, dr, t, os⟩ := s
  have l0 := exc_type (M := model prog w) hx hc
  have l1 := looks_mroIn (M := model prog w) X T.mo
  refine codeAny_call_builtin KF.slot_gs.plain KF.entry_gs (KF.slot_gs.check _ _ _ _ _ _ _ _ KF.type_class (KF.args_gs _ _ _) ?_)
  unfold Builtin.«getset_descriptor.__get__» descrGet
  rw [dga_obj]
  refine wpAny_bind (wpAny_pure ?_)
  unfold descrGetter descrCheckInstance descrNameAndClass isInstance
  simp only [KF.owner_class]
  repeat lk
  refine ⟨Code.quiet_builtin _ (by decide +kernel), codeAny_builtin KF.entry_class ?_⟩
  unfold Builtin.«object.__class__» shownTypeOf
  repeat lk
  exact h
theorem exc_entry {tk : Tok} {Q : Fin → Shared → Prop} (X : K.In s.heap) (T : ExcCls K C) (hx : s.heap.get? x = some ox) (hc : ox.cls = .ref C) (h : Q (.done (.ret (.ref C))) s) :
    wpAny (model prog w) A (Builtin.«object.__getattribute__» ⟨[.ref x, .str "__class__" tk], []⟩) Q E s := by
  obtain ⟨hh, g, dr, t, os⟩ := s
  have l0 := exc_type (M := model prog w) hx hc
  have l1 := exc_find (M := model prog w) (x := x) X T
  refine wpAny_bind (wpAny_pure (wpAny_bind (wpAny_pure (wpAny_bind (l0.at (wpAny_bind (l1.at ?_)))))))
  show wpAny _ _ (holding [.builtin "object.__class__"] (call (.builtin "getset_descriptor.__get__") [.builtin "object.__class__", .ref x, .ref C]) >>= ret) _ _ _
  refine wpAny_bind (wpAny_holding (wpAny_call (exc_get X T hx hc ?_)))
  exact wpAny_pure h
theorem exc_check {M : Model} {nameV : Value} {Q : Unit → Shared → Prop} (X : K.In s.heap) (T : ExcCls K C) (hx : s.heap.get? x = some ox) (hc : ox.cls = .ref C) (h : Q () s) :
    wpAny M A (checkBuiltinCall "BaseException.__getattribute__" ⟨[.ref x, nameV], []⟩) Q E s := by
  obtain ⟨hh, g, dr, t, os⟩ := s
  have hk : builtinKind "BaseException.__getattribute__" = some .slot := by decide +kernel
  have hsplit : splitId "BaseException.__getattribute__" = some ("BaseException", "__getattribute__") := by decide +kernel
  have l0 := exc_type (M := M) hx hc
  have l1 := looks_mroIn (M := M) X T.mb
  have ha := F.args_bexc_ga (.ref x) nameV
  simp only [checkBuiltinCall, hk, hsplit]
  refine wpAny_bind ?_
  unfold isInstance
  refine wpAny_bind (l0.at (l1.at ?_))
  rw [if_neg (by decide)]
  cases hsig : Manifest.signature? "BaseException.__getattribute__" with
  | none => exact wpAny_pure h
  | some sig =>
    have ha' : Bind.checkArgs "BaseException.__getattribute__" sig ⟨[.ref x, nameV], []⟩ = pure () := by simpa only [argsOk, hsig] using ha
    simp only [ha']
    exact wpAny_pure h
theorem exc_class {Q : Option Value → Shared → Prop} (X : K.In s.heap) (T : ExcCls K C) (FB : Slot "ValueError" "__getattribute__" "BaseException.__getattribute__") (hx : s.heap.get? x = some ox) (hc : ox.cls = .ref C) (h : Q (some (.ref C)) { s with toks := s.toks + 1 }) :
    wpAny (model prog w) A (getAttr? (.ref x) "__class__") Q E s := by
  obtain ⟨hh, g, dr, t, os⟩ := s
  have l0 := exc_type (M := model prog w) hx hc
  have l1 := looks_findIn (M := model prog w) X T.ga
  have l2 := looks_findIn (M := model prog w) X T.gt
  unfold getAttr? getAttrBy? getAttrBy
  refine wpAny_bind (wpAny_mkText (wpAny_bind (wpAny_attempt (wpAny_holding (wpAny_bind (l0.at (wpAny_bind (l1.at ?_))))))))
  have hx1 : (onTheHeap (Value.ref C) && Value.builtin "BaseException.__getattribute__" == Value.builtin "object.__getattribute__") = false := by
    rw [show (Value.builtin "BaseException.__getattribute__" == Value.builtin "object.__getattribute__") = false by decide +kernel]; rfl
  show wpAny _ _ (if (onTheHeap (Value.ref C) && Value.builtin "BaseException.__getattribute__" == Value.builtin "object.__getattribute__") = true then _ else _) _ _ _
  rw [if_neg (by rw [hx1]; exact Bool.false_ne_true)]
  unfold getAttrByItsOwn hookBefore
  rw [if_pos (show onTheHeap (Value.ref C) = true from rfl)]
  refine wpAny_bind (l2.at (wpAny_bind (wpAny_attempt (wpAny_holding ?_))))
  unfold callGetattribute boundAndCalled
  rw [if_neg (by exact Bool.false_ne_true), FB.bind (.ref x)]
  refine wpAny_bind (wpAny_pure ?_)
  refine wpAny_call (codeAny_call_builtin FB.plain F.entry_bexc_ga (exc_check X T hx hc (exc_entry X T hx hc ?_)))
  exact handed_on rfl (wpAny_pure h)
theorem kitx_exc (cd : (clsIn K C).isSome = true) (T : ExcCls K C) (FB : Slot "ValueError" "__getattribute__" "BaseException.__getattribute__") : KitX K (.ref x) (.ref C) (fun h => ∃ ox, h.get? x = some ox ∧ ox.cls = .ref C) where
  ty := fun _ _ _ ⟨_, hx, hc⟩ => exc_type hx hc
  it := fun _ _ X _ => by
    obtain ⟨cdD, hcD⟩ := Option.isSome_iff_exists.mp cd
    unfold clsIn at hcD
    split at hcD
    · rename_i c' d' cd' sl' ho
      exact fun A' Q' E' s' k q => wpAny_bind (wpAny_loadPart (k _ _ (X _ _ ho)) (wpAny_pure q))
    · cases hcD
  ne := fun h tp dd its n sl X htp => by
    obtain ⟨cdD, hcD⟩ := Option.isSome_iff_exists.mp cd
    refine Bool.eq_false_iff.mpr fun q => ?_
    have e : C = tp := Value.ref.inj (beq_iff_eq.mp q)
    subst e
    unfold clsIn at hcD
    split at hcD
    · rename_i c' d' cd' sl' ho
      cases (X _ _ ho).symm.trans htp
    · cases hcD
  ca := fun X ⟨_, hx, hc⟩ k => exc_class X T FB hx hc k
end
end L2
set_option linter.all false
set_option maxRecDepth 100000
namespace L2
open PySem PySem.Spec PyProof.Rows
theorem Flies.move {P : Program} {w : World} {base : Heap} {outer : List Env} {H H' : Hp} {h h' h'' B : Heap} {ea : Addr} {cls a0 : Value} (F : Flies P w base outer H h ea cls a0 H' B h')
    (hfun : ∀ b ∈ frs outer, ∃ o, h.get? b = some o ∧ H b = none ∧ ∀ vs, o.data ≠ .fields vs) (fl : Heap.FlyingW B outer ea cls a0 h'') (us : h'.UpToSlots h'') : Flies P w base outer H h ea cls a0 H' B h'' := by
  have slotF : ∀ b o, h.get? b = some o → b ∈ frs outer → ∃ sl, h''.get? b = some { o with slots := sl } := fun b o e hb => by
    obtain ⟨o', ho', n, hd⟩ := hfun b hb
    have e3 : o = o' := Option.some.inj (e.symm.trans ho')
    subst e3
    obtain ⟨sl2, e2⟩ := F.un.slot b o e n hb (by simp)
    obtain ⟨sl3, e4⟩ := us b _ e2 hd
    exact ⟨sl3, e4⟩
  refine ⟨hok_stays F.hok F.trk F.fly.1 fl.1, ⟨fun b o e n hb _ => ?_, fun b o e n hb _ => slotF b o e hb, F.un.free, fun b o e _ => ?_, F.un.tups, F.un.frzs, F.un.tbls⟩, fl, F.trk, F.bas, F.thr⟩
  · obtain ⟨u, hu⟩ := F.thr b o e hb
    have e2 := F.un.keep b o e n hb (by simp)
    have e3 := F.fly.1 b u hu
    rw [e2] at e3
    cases e3
    exact fl.1 b _ hu
  · by_cases hb : b ∈ frs outer
    · obtain ⟨sl, e1⟩ := slotF b o e hb
      exact ⟨_, e1⟩
    · obtain ⟨u, hu⟩ := F.thr b o e hb
      exact ⟨u, fl.1 b u hu⟩
def Came (X : Cx) (pins : List (Addr × Obj)) (E : XK) : Value → Shared → Prop := fun e s' => ∃ σ H s, Inv X pins σ H s ∧ CX1 X.prog X.w X.base X.stack H s E e s'
abbrev Cx.tryB (X : Cx) (pins : List (Addr × Obj)) (E : XK) : Cx := { X with pn := X.pn ++ pins, xe := Came X pins E }
abbrev Cx.suite (X : Cx) (pins : List (Addr × Obj)) (ea : Addr) (oe : Obj) : Cx := { X with A := X.A.mark (some (.ref ea)), calm := false, pn := X.pn ++ pins ++ [(ea, oe)], xe := fun _ _ => False }
section
variable {X : Cx} {pins : List (Addr × Obj)} {σ : St} {H : Hp} {s : Shared} {E : XK} {ea : Addr} {oe : Obj}
theorem Inv.toB (I : Inv X pins σ H s) : Inv (X.tryB pins E) [] σ H s :=
  ⟨⟨I.ok.mod, I.ok.kind, I.ok.glob, I.ok.blt, I.ok.above, I.ok.inj, I.ok.has, I.ok.cab, I.ok.hd, I.ok.frames, I.ok.stk, I.ok.exf, I.ok.bs, I.ok.bsz, I.ok.noex, I.ok.exfs, I.ok.funs, I.ok.frf⟩, I.os, I.bare, I.base, I.loc, I.cell, I.free, I.freeC, fun p hp => I.pin p (by simpa using hp), I.hok, I.len⟩
theorem Inv.ofB {pins' : List (Addr × Obj)} (I : Inv (X.tryB pins E) pins' σ H s) : Inv X pins σ H s :=
  ⟨⟨I.ok.mod, I.ok.kind, I.ok.glob, I.ok.blt, I.ok.above, I.ok.inj, I.ok.has, I.ok.cab, I.ok.hd, I.ok.frames, I.ok.stk, I.ok.exf, I.ok.bs, I.ok.bsz, I.ok.noex, I.ok.exfs, I.ok.funs, I.ok.frf⟩, I.os, I.bare, I.base, I.loc, I.cell, I.free, I.freeC, fun p hp => I.pin p (List.mem_append_left _ hp), I.hok, I.len⟩
theorem passC {P : Program} {w : World} {base : Heap} (h1 : X.prog = P) (h2 : X.w = w) (h3 : X.base = base) : Passes (CX1 P w base) (X.tryB pins E) E := by
  subst h1 h2 h3
  exact fun pins' σ H s e s' I h => ⟨σ, H, s, I.ofB, h⟩
theorem Inv.toS (I : Inv X pins σ H s) (he : s.heap.get? ea = some oe) (hn : H ea = none) (vs : Array Value) (hd : oe.data = .fields vs) (h1 : ea ≠ X.env.locals) (h2 : ea ∉ X.fs) : Inv (X.suite pins ea oe) [] σ H s :=
  ⟨⟨I.ok.mod, I.ok.kind, I.ok.glob, I.ok.blt, I.ok.above, I.ok.inj, I.ok.has, I.ok.cab, fun z => absurd z Bool.false_ne_true, I.ok.frames, I.ok.stk, I.ok.exf, I.ok.bs, I.ok.bsz, I.ok.noex, I.ok.exfs, I.ok.funs, I.ok.frf⟩, I.os, I.bare, I.base, I.loc, I.cell, I.free, I.freeC, fun p hp => by
    rw [List.append_nil] at hp
    rcases List.mem_append.mp hp with z | z
    · exact I.pin p z
    · have : p = (ea, oe) := by simpa using z
      subst this
      exact ⟨he, hn, h1, h2, fun v q => by rw [hd] at q; cases q⟩, I.hok, I.len⟩
theorem Inv.ofS (ok : X.Ok) (I : Inv (X.suite pins ea oe) [] σ H s) : Inv X pins σ H s :=
  ⟨ok, I.os, I.bare, I.base, I.loc, I.cell, I.free, I.freeC, fun p hp => I.pin p (by rw [List.append_nil]; exact List.mem_append_left _ hp), I.hok, I.len⟩
theorem name_goes {M : Model} {A : Around} {Ex : Value → Shared → Prop} {i : Nat} {n : Str} {pos : Pos} {Q : Unit → Shared → Prop} (I : Inv X pins σ H s) (hN : X.N.Nodup) (hi : X.N[i]? = some n) (hk : X.env.scope.names.lookup n = some .local)
    (h : ∀ s', Inv X pins (σ.set i none) H s' → Q () s') : wpAny M A (do bindName X.env n .none; unbindBehindTheSuite X.env n pos) Q Ex s := by
  obtain ⟨m, hn, hl⟩ := id I.loc
  have hcls : (X.env.scope.kind == .class || (X.env.scope.kind == .module && X.env.locals != X.env.globals)) = false := by rw [I.ok.kind]; rfl
  have hiσ : i < σ.length := by rw [I.len]; exact (List.getElem?_eq_some_iff.mp hi).1
  have cne := I.cne
  refine wpAny_nameGoes_keeps hk hn hcls fun h' v hn' hs => ?_
  obtain ⟨oL, _, _, hoL, _⟩ := id hn
  have old : ∀ {b : Addr} {o : Obj}, X.s₀.heap.get? b = some o → b ≠ X.env.locals := fun e => I.old_ne e
  refine h _ ⟨I.ok, I.os, I.bare, ⟨fun b o e n hb hx => (hs.2 b (old e)).trans (I.base.keep b o e n hb hx), fun b o e n hb hx => ?_, I.base.free, fun b o e hx => ?_, I.base.tups, I.base.frzs, I.base.tbls⟩, ⟨_, hn', fun j y v' e1 e2 e3 => ?_⟩, fun y c e => ?_, I.free, I.freeC, fun p hp => ?_, fun b ob e => ?_, by simpa using I.len⟩
  · obtain ⟨sl, e1⟩ := I.base.slot b o e n hb hx
    exact ⟨sl, (hs.2 b (old e)).trans e1⟩
  · obtain ⟨o', e1⟩ := I.base.there b o e hx
    exact ⟨o', (hs.2 b (old e)).trans e1⟩
  · by_cases hj : j = i
    · subst hj
      rw [List.getElem?_set_self hiσ] at e2
      cases e2
    · rw [List.getElem?_set_ne (Ne.symm hj)] at e2
      obtain ⟨u', r', q⟩ := hl j y v' e1 e2 e3
      refine ⟨u', r', ?_⟩
      rcases q with ⟨k, e⟩ | ⟨k, c, e, z⟩
      · refine .inl ⟨k, ?_⟩
        have : y ≠ n := fun e => hj (nodup_ix hN e1 (e ▸ hi))
        simp [this, e]
      · exact .inr ⟨k, c, e, z.sameBut hs (cne y c e)⟩
  · obtain ⟨w', z⟩ := I.cell y c e
    exact ⟨w', z.sameBut hs (cne y c e)⟩
  · obtain ⟨e, n, ne, nf, d⟩ := I.pin p hp
    exact ⟨(hs.2 p.1 ne).trans e, n, ne, nf, d⟩
  · refine (I.hok b ob e).stay (fun c w' hc q => (hs.2 c ?_).trans q) (fun _ q => q) fun _ _ q => q
    rintro rfl
    rcases hc with rfl | hc
    · rw [I.free] at e; cases e
    · rw [I.free] at hc; cases hc
end
abbrev dropN (i : Nat) (D : Ends) : Ends := { nx := fun σ H => D.nx (σ.set i none) H, rt := D.rt, bk := fun σ H => D.bk (σ.set i none) H, ct := fun σ H => D.ct (σ.set i none) H }
def tTry (K : PySem.W.Frag) (n : Nat) (CT : Addr) (i : Nat) (E : XK) (tb : TS) (ts : Addr → Value → TS) : TS := fun D σ H => tb D σ H ∧
  ∀ (cls : Value) (H' : Hp) (σ' : St), E cls none H' → σ'.length = n → PySem.W.exmOne K cls (.ref CT) = some true ∧ ∀ ea, H' ea = none → ts ea cls (dropN i D) (σ'.set i (some (.ref ea))) H'
section
variable {X : Cx} {E : XK} {x n : Str} {CT : Addr} {i : Nat} {body : List Stmt} {b₀ : Stmt} {suite : List Stmt} {tb : TS} {ts : Addr → Value → TS} {np hp pos : Pos}
theorem ps_try (hN : X.N.Nodup) (hi : X.N[i]? = some n) (hk : X.env.scope.names.lookup n = some .local) (hst : X.stack = X.env :: X.outer) (hfr : X.env.frame = some X.env.locals) (hg : Gl X x) (hm : X.mg x = some (.ref CT))
    (hb : ∀ pins, PSs (X.tryB pins E) body tb) (hs : ∀ pins ea oe cls, oe.cls = cls → PSs (X.suite pins ea oe) (b₀ :: suite) (ts ea cls)) (hd : (x == ("__debug__" : Str)) = false := by decide) :
    PS X (.Try body [.ExceptHandler (some (.Name x np)) (some n) (b₀ :: suite) hp] [] [] pos) (tTry X.K X.N.length CT i E tb ts) := by
  intro pins s σ H D I h
  obtain ⟨h1, h2⟩ := h
  refine wpAny_Try_except (wpAny_mono (hb pins [] s σ H D I.toB h1) (fun f s1 q => ?_) fun e s' q => ?_)
  · cases f with
    | next => obtain ⟨σ', H', J, z⟩ := q; exact wpAny_execs_nil ⟨σ', H', J.ofB, z⟩
    | brk => obtain ⟨σ', H', J, z⟩ := q; exact ⟨σ', H', J.ofB, z⟩
    | cont => obtain ⟨σ', H', J, z⟩ := q; exact ⟨σ', H', J.ofB, z⟩
    | ret u => obtain ⟨v, σ', H', J, r, z⟩ := q; exact ⟨v, σ', H', J.ofB, r, z⟩
  · obtain ⟨σ1, H1, s1, J, ea, cls, a0, H', B, rfl, os, gb, F, hE⟩ := q
    obtain ⟨hmat, hsu⟩ := h2 cls H' σ1 hE J.len
    have hfun : ∀ b ∈ frs X.stack, ∃ o, s1.heap.get? b = some o ∧ H1 b = none ∧ ∀ vs, o.data ≠ .fields vs := fun b hb' => by
      obtain ⟨_, o, ho, hd'⟩ := J.stack.mem hb'
      exact ⟨o, ho, J.stkFree b hb', hd'⟩
    have fr : X.A.frames = some (X.env :: X.outer) := hst ▸ J.ok.frames
    have F0 := F
    rw [hst] at F0
    refine wpAny_looks_onW fr hfr F0.fly fun h4 hh4 u4 => wpAny_landsW hh4 fun h5 hf5 u5 => ?_
    have F5 := F.move hfun (by rw [hst]; exact hf5) (u4.trans u5)
    have KI5 : X.K.In h5 := J.ok.mod.kin.keeps fun b o e => hf5.1 b o (F.bas b o e)
    obtain ⟨ob, hob, hobc⟩ := hf5.there
    have LT : PySem.W.Looks (model X.prog X.w) h5 (typeOf (.ref ea)) cls := hobc ▸ (PySem.W.Looks.ld hob).andThen .now
    refine wpAny_handleBy_cons (codeAny_handlers_test (Calls.Name_function_global J.ok.kind hg (Calls.loadGlobal_global (by rw [J.ok.glob]; exact J.ok.mod.glob.keeps fun b o e => hf5.1 b o (F.bas b o e)) hm ?_) hd)) (by intro z; cases z)
    refine (PySem.W.exm_one KI5 LT hmat).at ?_
    refine codeAny_handlers_suite_as (lands_againW hf5 fun h6 hf6 u6 => ?_)
    have F6 := F5.move hfun (by rw [hst]; exact hf6) u6
    have J6 : Inv X pins σ1 H' { s' with heap := h6 } := J.call' (s' := { s' with heap := h6 }) os F6.un F6.hok gb fun b z => absurd z (by simp)
    obtain ⟨oe, ws, hoe, hoec, hoed, _⟩ := hf6.first
    have hne : H' ea = none := by
      cases e : H' ea with
      | none => rfl
      | some o => obtain ⟨u, hu⟩ := F.trk ea o e; rw [hf6.2.1] at hu; cases hu
    have nofr : ea ∉ frs X.stack := fun z => by
      obtain ⟨_, o, ho, hd'⟩ := J6.stack.mem z
      have : oe = o := Option.some.inj (hoe.symm.trans ho)
      subst this
      exact hd' _ hoed
    have nl : ea ≠ X.env.locals := fun z => nofr (by rw [hst, frs_cons hfr, z]; exact List.mem_cons_self ..)
    have nf : ea ∉ X.fs := fun z => nofr (by rw [hst, frs_cons hfr]; exact List.mem_cons_of_mem _ z)
    have J7 := J6.toS hoe hne ws hoed nl nf
    refine store_ok (X := X.suite pins ea oe) J7 hN hi (.inl hk) (v := .ref ea) rfl (fun s7 J8 => ?_) (.inr hk)
    have run := hs pins ea oe cls hoec [] s7 _ H' (dropN i D) J8 (hsu ea hne)
    refine wpAny_mono run (fun f s8 q => ?_) fun _ _ z => z.elim
    cases f with
    | next => obtain ⟨σ', H2, J9, z⟩ := q; exact name_goes (J9.ofS J.ok) hN hi hk fun s9 J10 => ⟨_, H2, J10, z⟩
    | brk => obtain ⟨σ', H2, J9, z⟩ := q; exact name_goes (J9.ofS J.ok) hN hi hk fun s9 J10 => ⟨_, H2, J10, z⟩
    | cont => obtain ⟨σ', H2, J9, z⟩ := q; exact name_goes (J9.ofS J.ok) hN hi hk fun s9 J10 => ⟨_, H2, J10, z⟩
    | ret u => obtain ⟨v, σ', H2, J9, r, z⟩ := q; exact name_goes (J9.ofS J.ok) hN hi hk fun s9 J10 => ⟨v, _, H2, J10, r, z⟩
end
section
variable {X : Cx} {pins : List (Addr × Obj)} {ea : Addr} {oe : Obj}
def rIsE (K : PySem.W.Frag) (ea : Addr) (cls : Value) : List V → Hp → VK → Prop := fun xs H Q => ∃ (c : V) (cv : Value) (C : Addr) (b : Bool), xs = [.ref ea, c] ∧ (c = .ty "ValueError" ∧ cv = .type "ValueError" ∨ ∃ a, c = .ref a ∧ cv = .ref a) ∧ cls = .ref C ∧ (PySem.W.clsIn K C).isSome = true ∧ ExcCls K C ∧ PySem.W.kitOne K cls cv = some b ∧ Q (.bl b) H
theorem call_isE {cls : Value} (hcls : oe.cls = cls) : CallR (X.suite pins ea oe) (.builtin "isinstance") (rIsE X.K ea cls) := by
  subst hcls
  intro pins' s σ H xs us Q I r h
  obtain ⟨c, cv, C, b, rfl, hc, hcl, cd, T, e, q⟩ := h
  obtain ⟨u, v, rfl, rx, rv⟩ := vals2 r
  cases (show u = Value.ref ea from rx)
  have hv : v = cv := by
    rcases hc with ⟨rfl, rfl⟩ | ⟨a, rfl, rfl⟩
    · exact rv
    · exact rv
  subst hv
  have hp := I.pin (ea, oe) (List.mem_append_left _ (List.mem_append_right _ (by simp)))
  rw [hcl] at e
  exact PySem.W.kia_one (kitx_exc cd T PySem.F.excAttr_ValueError.ga) I.kIn ⟨oe, hp.1, hcl⟩ e (fun z => nomatch z) fun tk => ⟨.bl b, H, I.tok _, rfl, q⟩
end
end L2
set_option linter.all false
namespace TM
def gr (sys : List Int) (n : Int) : Int := (byGr sys n).sum
theorem sum_set : ∀ (l : List Int) (i : Nat) (v : Int), i < l.length → (l.set i v).sum = l.sum - l.getD i 0 + v
  | a :: l, 0, v, _ => by simp [List.sum_cons]; omega
  | a :: l, i + 1, v, h => by
    have := sum_set l i v (by simpa using h)
    simp only [List.set_cons_succ, List.sum_cons, List.getD_cons_succ]
    omega
theorem sum_rep (n : Nat) : (List.replicate n (0 : Int)).sum = 0 := by
  induction n with
  | zero => rfl
  | succ n ih => rw [List.replicate_succ, List.sum_cons, ih]; rfl
def topC (sys : List Int) : Int := sys.getD (sys.length - 1) 0
section
variable {sys : List Int} (S : SysW sys)
include S
theorem gr_zero : gr sys 0 = 0 := by rw [gr, byGr_zero S, sum_rep]
theorem gr_at {i : Nat} {c l : Int} (hi : sys[i]? = some c) (hl : c ≤ l) (hg : ∀ j d, i < j → sys[j]? = some d → l < d) : gr sys l = 1 + gr sys (l - c) := by
  rw [gr, byGr_step S hi hl hg, sum_set _ _ _ (by rw [byGr_length]; exact (List.getElem?_eq_some_iff.mp hi).1), gr]
  omega
theorem rise_at {i j : Nat} {a b : Int} (hi : sys[i]? = some a) (hj : sys[j]? = some b) (h : i < j) : a < b := by
  obtain ⟨h1, e1⟩ := List.getElem?_eq_some_iff.mp hi
  obtain ⟨h2, e2⟩ := List.getElem?_eq_some_iff.mp hj
  have := List.pairwise_iff_getElem.mp S.rise i j h1 h2 h
  rw [← e1, ← e2]; exact this
theorem gr_max {l : Int} (hl : 1 ≤ l) : gr sys l = 1 + gr sys (l - maxL (sys.filter fun c => decide (c ≤ l))) := by
  have hne : sys.filter (fun c => decide (c ≤ l)) ≠ [] := by
    intro z
    have : (1 : Int) ∈ sys.filter fun c => decide (c ≤ l) := List.mem_filter.mpr ⟨S.mem1, decide_eq_true hl⟩
    rw [z] at this; cases this
  have hm := maxL_mem hne
  obtain ⟨h1, h2⟩ := List.mem_filter.mp hm
  obtain ⟨i, hi, e⟩ := List.mem_iff_getElem.mp h1
  have hi' : sys[i]? = some (maxL (sys.filter fun c => decide (c ≤ l))) := by rw [List.getElem?_eq_getElem hi, e]
  refine gr_at S hi' (of_decide_eq_true h2) fun j d hij hj => ?_
  have h3 := rise_at S hi' hj hij
  apply Classical.byContradiction
  intro hc
  have : d ∈ sys.filter fun c => decide (c ≤ l) := List.mem_filter.mpr ⟨List.mem_of_getElem? hj, decide_eq_true (by omega)⟩
  have := maxL_ge this
  omega
theorem topC_at : sys[sys.length - 1]? = some (topC sys) := by
  have := S.ne
  rw [topC, List.getD_eq_getElem?_getD, List.getElem?_eq_getElem (by omega)]; rfl
theorem topC_mem : topC sys ∈ sys := List.mem_of_getElem? (topC_at S)
theorem topC_pos : 1 ≤ topC sys ∧ topC sys ≤ 1000 := S.pos _ (topC_mem S)
theorem topC_ge {c : Int} (hc : c ∈ sys) : c ≤ topC sys := by
  obtain ⟨i, hi, e⟩ := List.mem_iff_getElem.mp hc
  have hi' : sys[i]? = some c := by rw [List.getElem?_eq_getElem hi, e]
  by_cases z : i = sys.length - 1
  · rw [z, topC_at S] at hi'; cases hi'; exact Int.le_refl _
  · have := rise_at S hi' (topC_at S) (by omega); omega
theorem gr_top {l : Int} (hl : topC sys ≤ l) : gr sys l = 1 + gr sys (l - topC sys) :=
  gr_at S (topC_at S) hl fun j d hj hd => by
    have := (List.getElem?_eq_some_iff.mp hd).1
    omega
theorem fw_gr {n : Int} (h : 0 ≤ n) : fw sys n ≤ gr sys n := (byGr_all S h).1
def Ff (sys : List Int) : Option Int → Prop
  | none => ∀ n, 0 ≤ n → gr sys n = fw sys n
  | some n => 0 ≤ n ∧ fw sys n < gr sys n ∧ ∀ m, 0 ≤ m → m < n → gr sys m = fw sys m
omit S in
theorem Ff.one {o o' : Option Int} (h : Ff sys o) (h' : Ff sys o') : o = o' := by
  cases o with
  | none =>
    cases o' with
    | none => rfl
    | some n => have := h n h'.1; have := h'.2.1; omega
  | some m =>
    cases o' with
    | none => have := h' m h.1; have := h.2.1; omega
    | some n =>
      obtain ⟨a1, a2, a3⟩ := h
      obtain ⟨b1, b2, b3⟩ := h'
      have h1 : ¬ m < n := fun z => by have := b3 m a1 z; omega
      have h2 : ¬ n < m := fun z => by have := a3 n b1 z; omega
      have : m = n := by omega
      rw [this]
theorem ff_up {n : Int} (h : Ff sys (some n)) : ∃ d ∈ sys, d < topC sys ∧ n < d + topC sys := by
  obtain ⟨h0, h1, h2⟩ := h
  have hn : 1 ≤ n := by
    apply Classical.byContradiction
    intro z
    have : n = 0 := by omega
    subst this
    rw [gr_zero S, fw_zero S] at h1; omega
  have ht := topC_pos S
  obtain ⟨e, he, hen, hf⟩ := fw_ex S hn
  have he1 := (S.pos e he).1
  have hle := topC_ge S he
  have hne : e ≠ topC sys := fun z => by
    subst z
    have := gr_top S hen
    have := h2 (n - topC sys) (by omega) (by omega)
    omega
  refine ⟨e, he, by omega, ?_⟩
  apply Classical.byContradiction
  intro hc
  have a1 := h2 (n - e) (by omega) (by omega)
  have a2 := gr_top S (l := n - e) (by omega)
  have a3 := h2 (n - e - topC sys) (by omega) (by omega)
  have a4 := fw_le S (n := n - topC sys) he (by omega)
  have a5 := h2 (n - topC sys) (by omega) (by omega)
  have a6 := gr_top S (l := n) (by omega)
  rw [show n - topC sys - e = n - e - topC sys by omega] at a4
  omega
omit S in
theorem ff_least {n : Nat} (h : fw sys n < gr sys n) (hle : ∀ m : Int, 0 ≤ m → fw sys m ≤ gr sys m) : ∃ m : Int, m ≤ n ∧ Ff sys (some m) := by
  induction n using Nat.strongRecOn with
  | _ n ih =>
    by_cases hm : ∃ m : Nat, m < n ∧ fw sys m < gr sys m
    · obtain ⟨m, hm1, hm2⟩ := hm
      obtain ⟨k, hk1, hk2⟩ := ih m hm1 hm2
      exact ⟨k, by omega, hk2⟩
    · refine ⟨n, Int.le_refl _, by omega, h, fun m h0 hlt => ?_⟩
      have e : m = (m.toNat : Int) := by omega
      have := hle m h0
      apply Classical.byContradiction
      intro hc
      exact hm ⟨m.toNat, by omega, by rw [← e]; omega⟩
def faultsTo (sys : List Int) (last : Nat) : List Int := ((List.range (last + 1)).map fun (k : Nat) => (k : Int)).filter fun n => decide (fw sys n < gr sys n)
omit S in
theorem mem_faultsTo {last : Nat} {n : Int} : n ∈ faultsTo sys last ↔ 0 ≤ n ∧ n ≤ last ∧ fw sys n < gr sys n := by
  unfold faultsTo
  rw [List.mem_filter, List.mem_map]
  constructor
  · rintro ⟨⟨k, hk, rfl⟩, h⟩
    have := List.mem_range.mp hk
    exact ⟨by omega, by omega, of_decide_eq_true h⟩
  · rintro ⟨h1, h2, h3⟩
    exact ⟨⟨n.toNat, List.mem_range.mpr (by omega), by omega⟩, decide_eq_true h3⟩
omit S in
theorem faultsTo_rise (last : Nat) : (faultsTo sys last).Pairwise (· < ·) := by
  unfold faultsTo
  refine List.Pairwise.filter _ ?_
  rw [List.pairwise_map]
  exact List.Pairwise.imp (fun h => by omega) List.pairwise_lt_range
theorem ff_of_faults {last : Nat} (hl : ∀ d ∈ sys, d < topC sys → d + topC sys - 1 ≤ last) : Ff sys (faultsTo sys last).head? := by
  cases e : faultsTo sys last with
  | nil =>
    intro n h0
    have h1 := fw_gr S h0
    apply Classical.byContradiction
    intro hc
    have e1 : n = (n.toNat : Int) := by omega
    obtain ⟨m, hm, hf⟩ := ff_least (sys := sys) (n := n.toNat) (by rw [← e1]; omega) fun m h => fw_gr S h
    obtain ⟨d, hd, hd1, hd2⟩ := ff_up S hf
    have : m ∈ faultsTo sys last := mem_faultsTo.mpr ⟨hf.1, by have := hl d hd hd1; omega, hf.2.1⟩
    rw [e] at this; cases this
  | cons a r =>
    have ha : a ∈ faultsTo sys last := by rw [e]; exact List.mem_cons_self ..
    obtain ⟨a0, a1, a2⟩ := mem_faultsTo.mp ha
    refine ⟨a0, a2, fun m h0 hlt => ?_⟩
    have h1 := fw_gr S h0
    apply Classical.byContradiction
    intro hc
    have hm : m ∈ faultsTo sys last := mem_faultsTo.mpr ⟨h0, by omega, by omega⟩
    have hr := faultsTo_rise (sys := sys) last
    rw [e] at hm hr
    rcases List.mem_cons.mp hm with z | z
    · omega
    · have := (List.pairwise_cons.mp hr).1 m z; omega
end
end TM
set_option linter.all false
namespace TM
section
variable {sys : List Int} (S : SysW sys)
include S
theorem fw_one : fw sys 1 ≤ 1 := by
  have := fw_le S (n := 1) S.mem1 (Int.le_refl _)
  rw [show (1 : Int) - 1 = 0 by rfl, fw_zero S] at this
  omega
theorem fw_pos {n : Int} (h : 1 ≤ n) : 1 ≤ fw sys n := by
  obtain ⟨e, he, hen, hf⟩ := fw_ex S h
  have := fw_nn S (n := n - e) (by omega)
  omega
theorem ff_two {n : Int} (h : Ff sys (some n)) : ∃ i j : Nat, ∃ t e : Int, sys[i]? = some t ∧ sys[j]? = some e ∧ j < i ∧ t ≤ n ∧ (∀ m d, i < m → sys[m]? = some d → n < d) ∧ gr sys n = 1 + gr sys (n - t) ∧ fw sys n = 1 + fw sys (n - e) := by
  obtain ⟨h0, hf, hm⟩ := h
  have hn : 1 ≤ n := by
    apply Classical.byContradiction
    intro z
    have : n = 0 := by omega
    subst this
    rw [gr_zero S, fw_zero S] at hf; omega
  have hne : sys.filter (fun c => decide (c ≤ n)) ≠ [] := by
    intro z
    have : (1 : Int) ∈ sys.filter fun c => decide (c ≤ n) := List.mem_filter.mpr ⟨S.mem1, decide_eq_true hn⟩
    rw [z] at this; cases this
  have hM := List.mem_filter.mp (maxL_mem hne)
  have hM2 := of_decide_eq_true hM.2
  have hg := gr_max S hn
  obtain ⟨e, he, hen, hfe⟩ := fw_ex S hn
  have hle : e ≤ maxL (sys.filter fun c => decide (c ≤ n)) := maxL_ge (List.mem_filter.mpr ⟨he, decide_eq_true hen⟩)
  have hM1 := (S.pos _ hM.1).1
  have hmax : ∀ d ∈ sys, d ≤ n → d ≤ maxL (sys.filter fun c => decide (c ≤ n)) := fun d hd hdn => maxL_ge (List.mem_filter.mpr ⟨hd, decide_eq_true hdn⟩)
  generalize maxL (sys.filter fun c => decide (c ≤ n)) = t at hM hM1 hM2 hg hle hmax
  obtain ⟨i, hi, ei⟩ := List.mem_iff_getElem.mp hM.1
  obtain ⟨j, hj, ej⟩ := List.mem_iff_getElem.mp he
  have hi' : sys[i]? = some t := by rw [List.getElem?_eq_getElem hi, ei]
  have hj' : sys[j]? = some e := by rw [List.getElem?_eq_getElem hj, ej]
  have hne2 : e ≠ t := fun z => by
    subst z
    have := hm (n - e) (by omega) (by omega)
    omega
  refine ⟨i, j, t, e, hi', hj', ?_, hM2, fun m d hmi hd => ?_, hg, hfe⟩
  · apply Classical.byContradiction
    intro z
    by_cases e2 : i = j
    · subst e2; rw [hi'] at hj'; cases hj'; exact hne2 rfl
    · have := rise_at S hi' hj' (by omega); omega
  · have h3 := rise_at S hi' hd hmi
    apply Classical.byContradiction
    intro z
    have := hmax d (List.mem_of_getElem? hd) (by omega)
    omega
theorem ff_low {n : Int} (h : Ff sys (some n)) : 3 ≤ sys.length ∧ sys.getD 2 0 + 1 < n := by
  obtain ⟨i, j, t, e, hi, hj, hji, htn, htop, hg, hfe⟩ := ff_two S h
  obtain ⟨h0, hf, hm⟩ := h
  have hil := (List.getElem?_eq_some_iff.mp hi).1
  have ht1 := (S.pos t (List.mem_of_getElem? hi)).1
  have he1 := (S.pos e (List.mem_of_getElem? hj)).1
  have het := rise_at S hj hi hji
  have hne1 := fw_pos S (n := n - e) (by omega)
  have hi2 : 2 ≤ i := by
    apply Classical.byContradiction
    intro z
    have hj0 : j = 0 := by omega
    rw [hj0, S.one] at hj
    cases hj
    by_cases hn : n = t
    · subst hn
      rw [show n - n = 0 by omega, gr_zero S] at hg
      have := fw_pos S (n := n) (by omega)
      omega
    · have a1 := gr_at S hi (l := n - 1) (by omega) fun m d hmi hd => by have := htop m d hmi hd; omega
      have a2 := hm (n - 1) (by omega) (by omega)
      have a3 := hm (n - 1 - t) (by omega) (by omega)
      have a4 := fw_le S (n := n - t) S.mem1 (by omega)
      have a5 := hm (n - t) (by omega) (by omega)
      rw [show n - t - 1 = n - 1 - t by omega] at a4
      omega
  refine ⟨by omega, ?_⟩
  have h2 : sys[2]? = some (sys.getD 2 0) := by rw [List.getD_eq_getElem?_getD, List.getElem?_eq_getElem (by omega)]; rfl
  have hle : sys.getD 2 0 ≤ t := by
    by_cases e2 : i = 2
    · rw [e2, h2] at hi; cases hi; exact Int.le_refl _
    · have := rise_at S h2 hi (by omega); omega
  apply Classical.byContradiction
  intro z
  have a5 := hm (n - t) (by omega) (by omega)
  have : gr sys (n - t) ≤ 1 := by
    have : n - t = 0 ∨ n - t = 1 := by omega
    rcases this with e3 | e3
    · rw [e3, gr_zero S]; decide
    · rw [a5, e3]; exact fw_one S
  omega
theorem ff_ord : Ff sys (faultsTo sys (2 * topC sys).toNat).head? := ff_of_faults S fun d hd hlt => by have := topC_pos S; omega
end
end TM
set_option linter.all false
namespace TM
section
variable {sys : List Int} (S : SysW sys)
def sq (sys : List Int) (w : Int) (q : Nat) : Int := restOf (fw sys) (sys.reverse.take q) w
include S
structure Pear (sys : List Int) (w : Int) (qi qj : Nat) (ci cj : Int) : Prop where
  ff : Ff sys (some w)
  le : qi ≤ qj
  hi : sys.reverse[qi]? = some ci
  hj : sys.reverse[qj]? = some cj
  ui : 1 ≤ times (fw sys) ci (sq sys w qi)
  uj : 1 ≤ times (fw sys) cj (sq sys w qj)
  a0 : ∀ q c, q < qi → sys.reverse[q]? = some c → times (fw sys) c (sq sys w q) = 0
  b0 : ∀ q c, qj < q → sys.reverse[q]? = some c → times (fw sys) c (sq sys w q) = 0
section
variable {w : Int} {qi qj : Nat} {ci cj : Int} (P : Pear sys w qi qj ci cj)
include P
end
end
end TM
set_option linter.all false
namespace TM
section
variable {sys : List Int} (S : SysW sys)
include S
end
end TM
set_option linter.all false
namespace TM
section
variable {sys : List Int} (S : SysW sys)
include S
theorem ord_small (h : sys.length ≤ 2) : Ff sys none := by
  have hf := ff_ord S
  cases e : (faultsTo sys (2 * topC sys).toNat).head? with
  | none => rw [e] at hf; exact hf
  | some n => rw [e] at hf; have := (ff_low S hf).1; omega
variable {m : Int} (S' : SysW (sys ++ [m]))
include S'
end
end TM
set_option linter.all false
set_option maxRecDepth 100000
namespace L2
open PySem PySem.Spec PyProof.Rows
section
variable {X : Cx}
end
end L2
set_option linter.all false
namespace L2
open PySem PySem.Spec PyProof.Rows
theorem bt_ValueError : bootBuiltins "ValueError" = some (.type "ValueError") := by decide +kernel
def Sy (H : Hp) (a : Addr) (ns : List Int) : Prop := H a = some (.tup (ns.map V.int))
theorem Sy.same {H H' : Hp} {a : Addr} {ns : List Int} (h : Sy H a ns) (s : Same H H') : Sy H' a ns := s _ _ h
theorem Sy.sq {K : PySem.W.Frag} {H : Hp} {a : Addr} {ns : List Int} (h : Sy H a ns) : SqT K H a (ns.map V.int) := SqT.of h
theorem top_at {ns : List Int} (h : ns ≠ []) : atI (ns.map V.int) (-1) = some (.int (TM.topC ns)) := by
  have hp := List.length_pos_iff.mpr h
  unfold atI ixN
  rw [if_neg (by decide), if_pos (by rw [List.length_map]; omega)]
  show (ns.map V.int)[((-1 : Int) + ((ns.map V.int).length : Int)).toNat]? = _
  rw [List.length_map, show ((-1 : Int) + (ns.length : Int)).toNat = ns.length - 1 by omega, List.getElem?_map, TM.topC, List.getD_eq_getElem?_getD, List.getElem?_eq_getElem (by omega)]
  rfl
inductive Kn (H : Hp) : V → Prop where
  | non : Kn H .non
  | bl (b : Bool) : Kn H (.bl b)
  | int (i : Int) : Kn H (.int i)
  | str (x : Str) : Kn H (.str x)
  | lst {a : Addr} {xs : List V} (e : H a = some (.lst xs)) : Kn H (.ref a)
  | tup {a : Addr} {xs : List V} (e : H a = some (.tup xs)) : Kn H (.ref a)
theorem Kn.same {H H' : Hp} {v : V} (h : Kn H v) (s : Same H H') : Kn H' v := by
  cases h with
  | non => exact .non
  | bl b => exact .bl b
  | int i => exact .int i
  | str x => exact .str x
  | lst e => exact .lst (s _ _ e)
  | tup e => exact .tup (s _ _ e)
def numB : V → Int → Int → Bool
  | .int i, a, b => decide (a ≤ i) && decide (i ≤ b)
  | _, _, _ => false
def risesL (ns : List Int) : Bool := (ns.zip (ns.drop 1)).all fun p => decide (p.1 < p.2)
def intV : V → Int
  | .int i => i
  | _ => 0
def isSysV (xs : List V) : Bool := decide (1 ≤ xs.length) && decide (xs.length ≤ 8) && xs.all (fun v => numB v 1 200) && decide ((xs.map intV).getD 0 0 = 1) && risesL (xs.map intV)
theorem ints_of_num {xs : List V} (h : xs.all (fun v => numB v 1 200) = true) : xs = (xs.map intV).map V.int := by
  rw [List.map_map]
  conv => lhs; rw [← List.map_id xs]
  refine List.map_congr_left fun v hv => ?_
  have := List.all_eq_true.mp h v hv
  cases v <;> first | rfl | cases this
theorem intV_map (ns : List Int) : (ns.map V.int).map intV = ns := by rw [List.map_map]; exact (List.map_congr_left fun _ _ => rfl).trans (List.map_id ns)
theorem rises_iff {ns : List Int} : risesL ns = true ↔ ns.Pairwise (· < ·) := by
  constructor
  · intro h
    induction ns with
    | nil => exact List.Pairwise.nil
    | cons a r ih =>
      cases r with
      | nil => exact List.pairwise_singleton _ _
      | cons b r =>
        have h' : (decide (a < b) && risesL (b :: r)) = true := h
        rw [Bool.and_eq_true, decide_eq_true_eq] at h'
        have ih' := ih h'.2
        refine List.pairwise_cons.mpr ⟨fun c hc => ?_, ih'⟩
        rcases List.mem_cons.mp hc with z | z
        · omega
        · have := (List.pairwise_cons.mp ih').1 c z; omega
  · intro h
    induction ns with
    | nil => rfl
    | cons a r ih =>
      cases r with
      | nil => rfl
      | cons b r =>
        show (decide (a < b) && risesL (b :: r)) = true
        rw [ih (List.pairwise_cons.mp h).2, decide_eq_true ((List.pairwise_cons.mp h).1 b (List.mem_cons_self ..))]; rfl
theorem isSysV_iff {ns : List Int} : isSysV (ns.map V.int) = true ↔ TM.IsSys ns := by
  unfold isSysV
  rw [intV_map]
  simp only [Bool.and_eq_true, decide_eq_true_eq, List.length_map]
  constructor
  · rintro ⟨⟨⟨⟨h1, h2⟩, h3⟩, h4⟩, h5⟩
    refine ⟨?_, fun c hc => ?_, rises_iff.mp h5, h2⟩
    · rw [List.getD_eq_getElem?_getD, List.getElem?_eq_getElem (by omega)] at h4
      rw [List.getElem?_eq_getElem (by omega)]
      exact congrArg some h4
    · have := List.all_eq_true.mp h3 (.int c) (List.mem_map.mpr ⟨c, hc, rfl⟩)
      have h6 : (decide (1 ≤ c) && decide (c ≤ 200)) = true := this
      rw [Bool.and_eq_true, decide_eq_true_eq, decide_eq_true_eq] at h6
      exact h6
  · intro h
    refine ⟨⟨⟨⟨h.ne, h.len⟩, List.all_eq_true.mpr fun v hv => ?_⟩, ?_⟩, rises_iff.mpr h.rise⟩
    · obtain ⟨c, hc, rfl⟩ := List.mem_map.mp hv
      show (decide (1 ≤ c) && decide (c ≤ 200)) = true
      rw [decide_eq_true (h.pos c hc).1, decide_eq_true (h.pos c hc).2]; rfl
    · rw [List.getD_eq_getElem?_getD, h.one]; rfl
inductive BadV (H : Hp) : V → Prop where
  | non : BadV H .non
  | bl (b : Bool) : BadV H (.bl b)
  | int (i : Int) : BadV H (.int i)
  | str (x : Str) : BadV H (.str x)
  | lst {a : Addr} {xs : List V} (e : H a = some (.lst xs)) : BadV H (.ref a)
  | tup {a : Addr} {xs : List V} (e : H a = some (.tup xs)) (k : ∀ x ∈ xs, Kn H x) (l : xs.length ≤ 900) (n : isSysV xs = false) : BadV H (.ref a)
theorem BadV.same {H H' : Hp} {v : V} (h : BadV H v) (s : Same H H') : BadV H' v := by
  cases h with
  | non => exact .non
  | bl b => exact .bl b
  | int i => exact .int i
  | str x => exact .str x
  | lst e => exact .lst (s _ _ e)
  | tup e k l n => exact .tup (s _ _ e) (fun x hx => (k x hx).same s) l n
def ov : Option Int → V
  | none => .non
  | some n => .int n
theorem num_ok {n a b : Int} (h0 : a ≤ n) (h1 : n ≤ b) : numB (.int n) a b = true := by show (decide (a ≤ n) && decide (n ≤ b)) = true; rw [decide_eq_true h0, decide_eq_true h1]; rfl
def Tups (H : Hp) (rs : List Addr) (rows : List (List Int)) : Prop := rs.length = rows.length ∧ ∀ (i : Nat) (r : Addr), rs[i]? = some r → ∃ row : List Int, rows[i]? = some row ∧ H r = some (.tup (row.map V.int))
theorem Tups.same {H H' : Hp} {rs : List Addr} {rows : List (List Int)} (h : Tups H rs rows) (s : Same H H') : Tups H' rs rows :=
  ⟨h.1, fun i r e => by obtain ⟨row, e1, e2⟩ := h.2 i r e; exact ⟨row, e1, s _ _ e2⟩⟩
theorem Tups.nil {H : Hp} : Tups H [] [] := ⟨rfl, fun i r e => by simp at e⟩
theorem Tups.snoc {H : Hp} {rs : List Addr} {rows : List (List Int)} {r : Addr} {row : List Int} (h : Tups H rs rows) (hr : H r = some (.tup (row.map V.int))) : Tups H (rs ++ [r]) (rows ++ [row]) := by
  refine ⟨by rw [List.length_append, List.length_append, h.1]; rfl, fun i x e => ?_⟩
  by_cases hi : i < rs.length
  · rw [List.getElem?_append_left hi] at e
    obtain ⟨row', e1, e2⟩ := h.2 i x e
    exact ⟨row', by rw [List.getElem?_append_left (by rw [← h.1]; exact hi)]; exact e1, e2⟩
  · have hi2 : i = rs.length := by
      have := (List.getElem?_eq_some_iff.mp e).1
      rw [List.length_append, List.length_singleton] at this; omega
    subst hi2
    rw [List.getElem?_append_right (Nat.le_refl _), Nat.sub_self] at e
    have : r = x := by simpa using e
    subst this
    refine ⟨row, ?_, hr⟩
    rw [h.1, List.getElem?_append_right (Nat.le_refl _), Nat.sub_self]; rfl
section
variable {X : Cx}
end
end L2
set_option linter.all false
namespace L2
open PySem PySem.Spec PyProof.Rows
end L2
set_option linter.all false
set_option maxRecDepth 100000
namespace TC
open PySem PyProof.Rows
section
variable {prog : Program} {w : World} {A : Around} {E : Value → Shared → Prop} {s : Shared}
end
end TC
namespace L2
open PySem PySem.Spec PyProof.Rows
section
variable {X : Cx}
end
end L2
set_option linter.all false
namespace L2
open PySem PySem.Spec PyProof.Rows
structure MulOk (i : Nat) (ns : List Int) : Prop where
  w : TM.SysW ns
  len : ns.length = i + 1
  top : TM.topC ns ≤ 3 ^ i
  ord : TM.Ff ns none
theorem mul_one : MulOk 0 [1] := by
  have w : TM.SysW [1] := ⟨rfl, by decide, by decide, by decide⟩
  exact ⟨w, rfl, by decide, TM.ord_small w (by decide)⟩
end L2
set_option linter.all false
set_option maxRecDepth 100000
namespace L2
open PySem PySem.Spec PyProof.Rows
section
variable {X : Cx} {es : List Expr} {k : Nat} {tp : Pos}
end
end L2
set_option linter.all false
namespace L2
open PySem PySem.Spec PyProof.Rows
section
variable {K : PySem.W.Frag} {H : Hp} {g : TG} {ti : TT} {te : TE} {σ0 : St} {Q : VK}
end
end L2
set_option linter.all false
set_option maxRecDepth 100000
namespace L2
open PySem PySem.Spec PyProof.Rows
section
variable {X : Cx} {tg : Expr}
end
end L2
set_option linter.all false
set_option maxRecDepth 100000
namespace L2
open PySem PySem.Spec PyProof.Rows
section
variable {K : PySem.W.Frag} {H : Hp} {g : TG} {ti : TT} {te : TE} {σ0 : St} {Q : VK}
end
end L2
set_option linter.all false
set_option maxRecDepth 100000
namespace L2
open PySem PySem.Spec PyProof.Rows
section
variable {X : Cx} {tg : Expr}
end
end L2
set_option linter.all false
set_option maxRecDepth 100000
namespace L2
open PySem PySem.Spec PyProof.Rows
section
variable {K : PySem.W.Frag} {H : Hp} {g : TG} {ti : TT} {te : TE} {σ0 : St} {Q : VK}
end
end L2
set_option linter.all false
set_option maxRecDepth 100000
namespace L2
open PySem PySem.Spec PyProof.Rows
def notStar : Expr → Bool
  | .Starred _ _ => false
  | _ => true
theorem star_plain {e : Expr} {es : List Expr} {env : Env} (h : notStar e = true) : starEach (e :: es) env = (false, eval e env) :: starEach es env := by
  cases e <;> first | rfl | cases h
theorem pa_consP {X : Cx} {e : Expr} {es : List Expr} {te : TE} {t : TA} (ha : PE X e te) (hr : PA X es t) (hs : notStar e = true) : PA X (e :: es) (tCons te t) := pa_cons ha hr (star_plain hs)
section
variable {X : Cx} {e : Expr} {es : List Expr} {te : TE} {t : TA}
end
section
variable {X : Cx} {E : XK} {x : Str} {CT : Addr} {body : List Stmt} {b₀ : Stmt} {suite : List Stmt} {tb : TS} {ts : Addr → Value → TS} {np hp pos : Pos}
end
section
variable {X : Cx} {tg : Expr}
end
section
variable {K : PySem.W.Frag} {H : Hp} {g : TG} {ti : TT} {te : TE} {σ0 : St} {Q : VK}
end
end L2
set_option linter.all false
set_option maxRecDepth 100000
namespace L2
open PySem PySem.Spec PyProof.Rows
def Asc (x : Str) : Prop := ∀ c ∈ x.cps.toList, c < 128
theorem Asc.all {x : Str} (h : Asc x) : x.cps.all (· < 128) = true := by
  rw [← Array.all_toList, List.all_eq_true]
  exact fun c hc => decide_eq_true (h c hc)
end L2
set_option linter.all false
set_option maxRecDepth 100000
namespace TC
open PySem PyProof.Rows
section
variable {prog : Program} {w : World} {A : Around} {E : Value → Shared → Prop} {s : Shared} {a₀ : Array Keyed}
theorem minRun_le : ∀ (f n r : Nat), minRun' f n r ≤ n + r
  | 0, n, r => Nat.le_refl _
  | f + 1, n, r => by
    rw [minRun'_succ]
    split
    · exact Nat.le_refl _
    · have := minRun_le f (n / 2) (max r (n % 2))
      omega
theorem countRun_whole {st : SortSt} {Q : Option Nat → SortSt → Prop} (h0 : IntKeys a₀) (hB : SBase a₀ st) (h1 : 1 ≤ a₀.size) (hs : SortedTo (arrOf st) a₀.size) (h : Q (some a₀.size) st) :
    wpS (model prog w) A E s (countRun' 0 a₀.size) Q st := by
  rw [countRun0_eq]
  refine wpS_bind (wpS_ascLoop h0 (Nat.le_refl _) (Nat.le_refl 1) h1 hB (fun i j hij hj => hs i j hij (by omega)) fun n hn1 hn2 _ hor => ?_)
  have e : n = a₀.size := by
    rcases hor with z | z
    · exact z
    · by_cases hlt : n < a₀.size
      · have := hs (n - 1) n (by omega) hlt; omega
      · omega
  subst e
  dsimp only
  rw [if_pos (beq_self_eq_true _)]
  exact wpS_pure h
theorem fall_loop {st : SortSt} {n : Nat} {f : Nat → Int} {Q : DescSt → SortSt → Prop} (h0 : IntKeys a₀) (h1 : 1 ≤ n) (hnn : n ≤ a₀.size) (hB : SBase a₀ st) (hf : ∀ k, K (arrOf st) k = f k) (hs : ∀ i j, i ≤ j → j < a₀.size → f j ≤ f i)
    (h : ∀ neq q, SBase a₀ q → (∀ k, K (arrOf q) k = f k) → neq + 1 ≤ a₀.size → (∀ i, a₀.size - (neq + 1) ≤ i → i < a₀.size → f i = f (a₀.size - 1)) → Q (none, a₀.size, neq) q) :
    wpS (model prog w) A E s (descLoop n a₀.size) Q st := by
  unfold descLoop
  refine wpS_forRange (I := fun x c q => ∃ neq, c = (none, x, neq) ∧ SBase a₀ q ∧ (∀ k, K (arrOf q) k = f k) ∧ neq + 1 ≤ x ∧ (∀ i, x - (neq + 1) ≤ i → i < x → f i = f (x - 1))) ?one ?two ⟨0, rfl, hB, hf, by omega, fun i a b => by congr 1; omega⟩
  case two =>
    rintro c q ⟨neq, rfl, hB', hf', hq, he⟩
    rw [show max n a₀.size = a₀.size by omega] at hq he ⊢
    exact h neq q hB' hf' hq he
  case one =>
    rintro x c q hax hxn ⟨neq, rfl, hB', hf', hq, he⟩
    dsimp only
    have hsz : x ≤ (arrOf q).size := by rw [hB'.size]; omega
    have hx := hs (x - 1) x (by omega) hxn
    refine wpS_bind (wpS_ltK hB' h0 (by omega) (by omega) ?_)
    by_cases hless : K (arrOf q) x < K (arrOf q) (x - 1)
    · simp only [hless, decide_true, if_true]
      by_cases hneq : neq > 0
      · rw [if_pos hneq]
        have ke : ∀ k, K (mirror (arrOf q) (x - (neq + 1)) x ((x - (x - (neq + 1))) / 2)) k = K (arrOf q) k := K_mirror_equal hsz (fun k a b => by rw [hf', hf']; exact he k a b)
        refine wpS_bind (wpS_reverse (wpS_pure ⟨0, rfl, hB'.setArr (mirror_perm _ _ _ _), fun k => (ke k).trans (hf' k), by omega, fun i a b => by congr 1; omega⟩))
      · rw [if_neg hneq]
        exact wpS_pure ⟨0, rfl, hB', hf', by omega, fun i a b => by congr 1; omega⟩
    · simp only [hless, decide_false, Bool.false_eq_true, if_false]
      have hl2 : ¬ K (arrOf q) (x - 1) < K (arrOf q) x := by rw [hf', hf']; omega
      refine wpS_bind (wpS_ltK hB' h0 (by omega) (by omega) ?_)
      simp only [hl2, decide_false, Bool.false_eq_true, if_false]
      rw [hf', hf'] at hless
      refine wpS_pure ⟨neq + 1, rfl, hB', hf', by omega, fun i a b => ?_⟩
      rw [show x + 1 - 1 = x by omega]
      by_cases hix : i = x
      · rw [hix]
      · rw [he i (by omega) (by omega)]; omega
theorem fall_tail {st : SortSt} {f : Nat → Int} {Q : Option Nat → SortSt → Prop} (h0 : IntKeys a₀) (h1 : 1 ≤ a₀.size) (hB : SBase a₀ st) (hf : ∀ k, K (arrOf st) k = f k) (hs : ∀ i j, i ≤ j → j < a₀.size → f j ≤ f i)
    (h : ∀ q, SBase a₀ q → SortedTo (arrOf q) a₀.size → Q (some a₀.size) q) : wpS (model prog w) A E s (tail3 a₀.size a₀.size) Q st := by
  unfold tail3
  have hsz : a₀.size ≤ (arrOf st).size := by rw [hB.size]; exact Nat.le_refl _
  refine wpS_bind (wpS_reverse ?_)
  have hB' : SBase a₀ (setArr st (mirror (arrOf st) 0 a₀.size ((a₀.size - 0) / 2))) := hB.setArr (mirror_perm _ _ _ _)
  have hso : SortedTo (arrOf (setArr st (mirror (arrOf st) 0 a₀.size ((a₀.size - 0) / 2)))) a₀.size := by
    intro i j hij hj
    show K (mirror (arrOf st) 0 a₀.size ((a₀.size - 0) / 2)) i ≤ K (mirror (arrOf st) 0 a₀.size ((a₀.size - 0) / 2)) j
    rw [K_mirror hsz, K_mirror hsz, if_pos (by omega), if_pos (by omega), hf, hf]
    exact hs _ _ (by omega) (by omega)
  refine wpS_bind (wpS_ascLoop h0 (Nat.le_refl _) h1 (Nat.le_refl _) hB' hso fun m hm1 hm2 hsm _ => ?_)
  have e : m = a₀.size := by omega
  subst e
  exact wpS_pure (h _ hB' hsm)
theorem fall_part {st : SortSt} {n : Nat} {f : Nat → Int} {Q : Option Nat → SortSt → Prop} (h0 : IntKeys a₀) (hnn : n + 1 ≤ a₀.size) (hB : SBase a₀ st) (hf : ∀ k, K (arrOf st) k = f k) (hs : ∀ i j, i ≤ j → j < a₀.size → f j ≤ f i)
    (h : ∀ q, SBase a₀ q → SortedTo (arrOf q) a₀.size → Q (some a₀.size) q) : wpS (model prog w) A E s (descPart n a₀.size) Q st := by
  unfold descPart
  refine wpS_bind (wpS_lift (wpAny_rule ⟨rfl, ?_⟩))
  refine wpS_bind (fall_loop h0 (by omega) hnn hB hf hs fun neq q hB' hf' hq he => ?_)
  dsimp only
  have hsz : a₀.size ≤ (arrOf q).size := by rw [hB'.size]; exact Nat.le_refl _
  by_cases hneq : neq > 0
  · rw [if_pos hneq]
    have ke : ∀ k, K (mirror (arrOf q) (a₀.size - (neq + 1)) a₀.size ((a₀.size - (a₀.size - (neq + 1))) / 2)) k = K (arrOf q) k := K_mirror_equal hsz (fun k a b => by rw [hf', hf']; exact he k a b)
    exact wpS_bind (wpS_reverse (fall_tail h0 (by omega) (hB'.setArr (mirror_perm _ _ _ _)) (fun k => (ke k).trans (hf' k)) hs h))
  · rw [if_neg hneq]
    exact fall_tail h0 (by omega) hB' hf' hs h
theorem countRun_fall {st : SortSt} {f : Nat → Int} {Q : Option Nat → SortSt → Prop} (h0 : IntKeys a₀) (hB : SBase a₀ st) (h1 : 1 ≤ a₀.size) (hf : ∀ k, K (arrOf st) k = f k) (hs : ∀ i j, i ≤ j → j < a₀.size → f j ≤ f i)
    (h : ∀ q, SBase a₀ q → SortedTo (arrOf q) a₀.size → Q (some a₀.size) q) : wpS (model prog w) A E s (countRun' 0 a₀.size) Q st := by
  rw [countRun0_eq]
  refine wpS_bind (wpS_ascLoop h0 (Nat.le_refl _) (Nat.le_refl 1) h1 hB (fun i j hij hj => by rw [show i = j by omega]; exact Int.le_refl _) fun n hn1 hn2 hsn hor => ?_)
  dsimp only
  by_cases hnn : n = a₀.size
  · rw [if_pos (by simpa using hnn)]
    subst hnn
    exact wpS_pure (h st hB hsn)
  · rw [if_neg (by simpa using hnn)]
    have flat : ∀ k, 0 ≤ k → k < n → K (arrOf st) k = K (arrOf st) (n - 1) := fun k _ hk => by
      have a2 := hsn k (n - 1) (by omega) (by omega)
      have a3 := hs k (n - 1) (by omega) (by omega)
      rw [← hf, ← hf] at a3
      omega
    by_cases hgt : n > 1
    · rw [if_pos hgt]
      refine wpS_bind (wpS_ltK hB h0 (by omega) (by omega) ?_)
      have hrose : ¬ K (arrOf st) 0 < K (arrOf st) (n - 1) := by rw [flat 0 (by omega) (by omega)]; omega
      simp only [hrose, decide_false, Bool.false_eq_true, if_false]
      have hsz : n ≤ (arrOf st).size := by rw [hB.size]; omega
      have ke : ∀ k, K (mirror (arrOf st) 0 n ((n - 0) / 2)) k = K (arrOf st) k := K_mirror_equal hsz flat
      exact wpS_bind (wpS_reverse (fall_part h0 (by omega) (hB.setArr (mirror_perm _ _ _ _)) (fun k => (ke k).trans (hf k)) hs h))
    · rw [if_neg hgt]
      exact fall_part h0 (by omega) hB hf hs h
theorem runs_one {st : SortSt} {Q : Unit → SortSt → Prop} (hB : SBase a₀ st) (h2 : 2 ≤ a₀.size)
    (hc : ∀ {R : Option Nat → SortSt → Prop}, (∀ q, SBase a₀ q → SortedTo (arrOf q) a₀.size → R (some a₀.size) q) → wpS (model prog w) A E s (countRun' 0 a₀.size) R st)
    (h : ∀ st', (arrOf st').Perm a₀ → failedOf st' = none → SortedTo (arrOf st') a₀.size → Q () st') : wpS (model prog w) A E s sortRuns' Q st := by
  rw [sortRuns'_eq]
  refine wpS_bind (wpS_get ?_)
  dsimp only
  have hmr := minRun_le a₀.size a₀.size 0
  simp only [hB.size]
  generalize minRun' a₀.size a₀.size 0 = mr at hmr
  refine wpS_bind (wpS_mono (wpS_forRange
    (I := fun x c q => (x = 0 ∧ c = (none, 0) ∧ q = st) ∨ (1 ≤ x ∧ c = (none, a₀.size) ∧ SDone a₀ q))
    (Q := fun c q => c = (none, a₀.size) ∧ SDone a₀ q) ?one ?two (.inl ⟨rfl, rfl, rfl⟩)) ?three)
  case two =>
    rintro c q (⟨hx, _, _⟩ | ⟨_, hc, hD⟩)
    · omega
    · exact ⟨hc, hD⟩
  case one =>
    rintro x c q _ hx (⟨rfl, rfl, rfl⟩ | ⟨hx1, rfl, hD⟩)
    · dsimp only
      rw [if_neg (by omega)]
      simp only [Nat.sub_zero, Nat.zero_add]
      refine wpS_bind (hc fun q' hB' hs => ?_)
      dsimp only
      rw [if_neg (by omega)]
      refine wpS_bind (wpS_get ?_)
      have hb : (pendingOf q').back? = none := by rw [hB'.pend]; rfl
      rw [hb]
      dsimp only
      exact wpS_bind (wpS_modify (wpS_pure (.inr ⟨by omega, rfl, hB'.done hs⟩)))
    · dsimp only
      rw [if_pos (Nat.le_refl _)]
      exact wpS_pure ⟨rfl, hD⟩
  case three =>
    rintro c q ⟨rfl, hD⟩
    dsimp only
    refine wpS_bind (wpS_mono (wpS_forRange (I := fun _ c q' => q' = q ∧ c = (none, ())) (Q := fun c q' => q' = q ∧ c = (none, ())) ?_ (fun _ _ hh => hh) ⟨rfl, rfl⟩) ?_)
    · rintro x c q' _ _ ⟨rfl, rfl⟩
      refine wpS_bind (wpS_get ?_)
      rw [if_pos (by rw [hD.2.2.1]; exact Nat.le_refl 1)]
      exact wpS_pure ⟨rfl, rfl⟩
    · rintro c q' ⟨rfl, rfl⟩
      exact wpS_pure (h _ hD.1 hD.2.1 hD.2.2.2)
def SortOk (ns : List Int) : Prop := ns.length ≤ 1000 ∧ (ns.length < 64 ∨ ns.Pairwise (· ≤ ·) ∨ ns.Pairwise (· ≥ ·))
theorem key_pairs {vs : List Value} {ns : List Int} (hI : IntsAre vs ns) (k : Nat) (hk : k < ns.length) : K (pairsOf vs) k = ns[k] := by
  have hl : vs.length = ns.length := IntsAre.length hI
  have hk' : k < vs.length := by omega
  rw [K_eq (by rw [pairsOf_size]; exact hk')]
  have e1 : (pairsOf vs)[k]'(by rw [pairsOf_size]; exact hk') = (vs[k], vs[k]) := by simp [pairsOf]
  rw [e1]
  have e2 := hI.nums
  have : (vs.map numOf)[k]'(by simpa using hk') = ns[k] := by simp only [e2]
  simpa using this
theorem runs_ok {vs : List Value} {ns : List Int} {Q : Unit → SortSt → Prop} (hI : IntsAre vs ns) (h2 : 2 ≤ vs.length) (hg : SortOk ns)
    (h : ∀ st', (arrOf st').Perm (pairsOf vs) → failedOf st' = none → SortedTo (arrOf st') (pairsOf vs).size → Q () st') : wpS (model prog w) A E s sortRuns' Q (SortSt.mk' oneType' (vs.toArray.zip vs.toArray) #[] 7 none) := by
  have hl : vs.length = ns.length := IntsAre.length hI
  have hB : SBase (pairsOf vs) (SortSt.mk' oneType' (vs.toArray.zip vs.toArray) #[] 7 none) := ⟨Array.Perm.refl _, rfl, rfl, rfl⟩
  have hsz : (pairsOf vs).size = ns.length := (pairsOf_size vs).trans hl
  rcases hg.2 with z | z | z
  · exact wpS_sortRuns hI.intKeys hB (by rw [pairsOf_size]; exact h2) (by rw [pairsOf_size]; omega) h
  · refine runs_one hB (by rw [pairsOf_size]; exact h2) (fun {R} hR => ?_) h
    have hso : SortedTo (pairsOf vs) (pairsOf vs).size := fun i j hij hj => by
      rw [key_pairs hI i (by omega), key_pairs hI j (by omega)]
      rcases Nat.lt_or_eq_of_le hij with y | y
      · exact List.pairwise_iff_getElem.mp z i j (by omega) (by omega) y
      · subst y; exact Int.le_refl _
    exact countRun_whole hI.intKeys hB (by omega) hso (hR _ hB hso)
  · refine runs_one hB (by rw [pairsOf_size]; exact h2) (fun {R} hR => ?_) h
    refine countRun_fall (f := K (pairsOf vs)) hI.intKeys hB (by omega) (fun _ => rfl) (fun i j hij hj => ?_) hR
    rw [key_pairs hI i (by omega), key_pairs hI j (by omega)]
    rcases Nat.lt_or_eq_of_le hij with y | y
    · exact List.pairwise_iff_getElem.mp z i j (by omega) (by omega) y
    · subst y; exact Int.le_refl _
theorem list_sort_ok {a : Addr} {vs : List Value} {ns : List Int} {n : Nat} {P : Fin → Shared → Prop} (ho : s.heap.get? a = some (seqObj "list" vs.toArray n)) (hI : IntsAre vs ns) (hg : SortOk ns)
    (h : ∀ (out : Array Value) (ms : List Int), IntsAre out.toList ms → ms.Perm ns → ms.Pairwise (· ≤ ·) → P (.done (.ret .none)) { s with heap := sortedHeap s.heap a vs out }) :
    wpAny (model prog w) A (Builtin.«list.sort» ⟨[.ref a], []⟩) P E s := by
  have hvl : vs.length = ns.length := IntsAre.length hI
  have h1000 := hg.1
  have hsl := sizeLine_eq
  by_cases h64 : vs.length < 64
  · exact list_sort_tree ho hI h64 h
  rw [list_sort_plain]
  have ha : a < s.heap.objs.size := Heap.lt_size ho
  refine wpAny_bind (listItems_at ho rfl (wpAny_bind (listUpdate_at ho rfl ?_ (by rw [List.size_toArray]; omega) (Nat.zero_le _))))
  obtain ⟨e1, ho1⟩ : ∃ e1, (s.heap.update a (Obj.mapSeq fun _ => #[])).get? a = some (seqObj "list" #[] e1) := ⟨_, get?_update_seq ho (fun _ => #[])⟩
  refine wpAny_bind (seqEpoch_at ho1 rfl (wpAny_bind (wpAny_newTuple ?_ (by simp; omega))))
  refine wpAny_bind (wpAny_newList ?_ (by simp))
  refine wpAny_holding ?_
  have ne1 : a ≠ (s.heap.update a (Obj.mapSeq fun _ => #[])).objs.size := by rw [Heap.size_update]; exact Nat.ne_of_lt ha
  have ne2 : a ≠ ((s.heap.update a (Obj.mapSeq fun _ => #[])).push (seqObj "tuple" vs.toArray 0)).objs.size := by rw [size_push', Heap.size_update]; exact Nat.ne_of_lt (Nat.lt_succ_of_lt ha)
  have ho6 : (((s.heap.update a (Obj.mapSeq fun _ => #[])).push (seqObj "tuple" vs.toArray 0)).push (seqObj "list" #[] 0)).get? a = some (seqObj "list" #[] e1) := by
    rw [Heap.get?_push_ne _ _ _ ne2, Heap.get?_push_ne _ _ _ ne1]
    exact ho1
  show wpAny (model prog w) A _ P E { s with heap := ((s.heap.update a (Obj.mapSeq fun _ => #[])).push (seqObj "tuple" vs.toArray 0)).push (seqObj "list" #[] 0) }
  dsimp only
  have h2 : ¬ vs.toArray.size < 2 := by rw [List.size_toArray]; omega
  rw [if_neg h2, if_neg h2]
  have hkk : keyKind' vs.toArray = pure oneType' := by
    match vs, h64, hI with
    | [], z, _ => exact absurd (show (0 : Nat) < 64 by decide) z
    | [_], z, _ => exact absurd (show (1 : Nat) < 64 by decide) z
    | _ :: _ :: _, _, hI => exact keyKind_ints hI
  rw [hkk]
  refine wpAny_bind (wpAny_pure (wpAny_bind (wpAny_mono (runs_ok (Q := fun _ q => (arrOf q).Perm (pairsOf vs) ∧ failedOf q = none ∧ SortedTo (arrOf q) (pairsOf vs).size) hI (by omega) hg fun q a1 a2 a3 => ⟨a1, a2, a3⟩) ?_ fun _ _ e => e)))
  rintro ⟨⟨⟩, q⟩ s' ⟨rfl, hp, hf, hs⟩
  dsimp only
  have h9 : (arrOf q).size = vs.length := hp.size_eq.trans (pairsOf_size _)
  refine wpAny_bind (seqEpoch_at ho6 rfl (wpAny_bind (listUpdate_at ho6 rfl ?_ (Nat.zero_le _) (by rw [Array.size_map]; omega))))
  rw [hf]
  simp only [bne_self_eq_false, Bool.false_eq_true, if_false]
  obtain ⟨ms, b1, b2, b3⟩ := sorted_out hI hp hs
  exact wpAny_pure (h _ ms b1 b2 b3)
theorem sorted_list {l : Addr} {vs : List Value} {ns : List Int} {Q : Value → Shared → Prop} (hl : s.heap.IsList l vs.toArray) (hI : IntsAre vs ns) (hg : SortOk ns)
    (h : ∀ (D : Addr) (h' : Heap) (us : List Value) (ms : List Int) (c : Nat), (∀ b o, s.heap.get? b = some o → h'.get? b = some o) → s.heap.objs.size ≤ D →
      h'.get? D = some { cls := .type "list", data := .seq us.toArray c } → IntsAre us ms → ms.Perm ns → ms.Pairwise (· ≤ ·) → Q (.ref D) { s with heap := h' }) :
    wpAny (model prog w) A (call (.builtin "sorted") [.ref l]) Q E s := by
  have hvl : vs.length = ns.length := IntsAre.length hI
  have h1000 := hg.1
  have hsl := sizeLine_eq
  refine Calls.call_function_entry kind_sorted plain_sorted entry_sorted (args_sorted1 _) ?_
  unfold Builtin.«sorted»
  refine wpAny_bind (m := checkCount "sorted" 1 1 _) (wpAny_pure ?_)
  refine wpAny_bind (collect_list hl ?_ (by omega))
  refine wpAny_bind (wpAny_newList ?_ (by omega))
  generalize hh1 : (s.heap.push (seqObj "list" #[] 0)).update s.heap.objs.size (Obj.mapSeq (· ++ vs.toArray)) = h₁
  have hk : ∀ b o, s.heap.get? b = some o → h₁.get? b = some o := fun b o e => by
    rw [← hh1, Heap.get?_update_ne _ _ _ _ (Nat.ne_of_lt (Heap.lt_size e))]
    exact Heap.get?_push_of_some _ e
  have hoL : (h₁.push (seqObj "list" vs.toArray 0)).get? h₁.objs.size = some (seqObj "list" vs.toArray 0) := Heap.get?_push_size _ rfl
  have hsz : s.heap.objs.size ≤ h₁.objs.size := by rw [← hh1, Heap.size_update, size_push']; exact Nat.le_succ _
  refine wpAny_bind (wpAny_holding (wpAny_call_entry slot_list_sort ⟨_, hoL, rfl⟩ entry_list_sort (list_sort_ok hoL hI hg fun out ms a1 a2 a3 => ⟨_, rfl, ?_⟩) (args_list_sort _)))
  obtain ⟨c, hc⟩ := sortedHeap_at (out := out) hoL
  refine wpAny_pure ⟨_, rfl, h _ _ out.toList ms c (fun b o e => ?_) hsz (by simpa using hc) a1 a2 a3⟩
  have hb : b < h₁.objs.size := Heap.lt_size (hk b o e)
  rw [sortedHeap_old (Nat.ne_of_lt hb) (by rw [size_push']; exact Nat.lt_succ_of_lt hb)]
  exact Heap.get?_push_of_some _ (hk b o e)
end
end TC
namespace L2
open PySem PySem.Spec PyProof.Rows
section
variable {X : Cx}
def rSortL (K : PySem.W.Frag) : List V → Hp → VK → Prop := fun xs H Q => ∃ (p : Addr) (ns : List Int), xs = [.ref p] ∧ SqL K H p (ns.map V.int) ∧ TC.SortOk ns ∧ ∀ (l : Addr) (ms : List Int), H l = none → ms.Perm ns → ms.Pairwise (· ≤ ·) → Q (.ref l) (upd H l (.lst (ms.map V.int)))
theorem call_sortL : CallR X (.builtin "sorted") (rSortL X.K) := by
  intro pins s σ H xs us Q I r h
  obtain ⟨p, ns, rfl, hq, hg, q⟩ := h
  obtain ⟨u, rfl, rx⟩ := vals1 r
  cases rx
  obtain ⟨its, rv, pl, hz⟩ := I.list hq
  have hln2 := IntsAre.length (intsAre_of rv)
  refine TC.sorted_list pl.isList (intsAre_of rv) hg fun D h' vs ms c hk hD hoD hI hp hpw => ?_
  have h1000 := hg.1
  have I2 : Inv X pins σ (upd H D (.lst (ms.map V.int))) { s with heap := h', toks := s.toks } :=
    I.laid (t' := s.toks) hk hD (show ObjOk X.prog X.w _ h' _ (.lst (ms.map V.int)) from ⟨by rw [List.length_map, hp.length_eq, sizeLine_eq]; omega, vs, c, vals_ints hI, hoD⟩)
  exact ⟨.ref D, _, I2, rfl, q D ms (I.hok.fresh hD) hp hpw⟩
end
end L2
set_option linter.all false
set_option maxRecDepth 100000
namespace TC
open PySem PyProof.Rows
open Sem (wp)
open Builtin
theorem noFill_tuple_mul : fillsNumberSlot (.type "tuple") "mul" = pure false :=
  PySem.fillsNumberSlot_seq (id := "tuple.__mul__") (r := some (.builtin "tuple.__rmul__")) F.slot_tuple_mul.lookup (by decide +kernel) F.slot_tuple_rmul.lookup (by decide +kernel)
theorem repeat_tuple : seqRepeat? (.type "tuple") = pure (some (.builtin "tuple.__mul__")) := by
  unfold seqRepeat?
  rw [PySem.seqSlot_of (T := "tuple") (name := "__mul__") (id := "tuple.__mul__") F.slot_tuple_mul.lookup (by decide +kernel), PySem.seqSlot_of (T := "tuple") (name := "__rmul__") (id := "tuple.__rmul__") F.slot_tuple_rmul.lookup (by decide +kernel)]
  rfl
theorem int_rmul_tup (a : Int) (t : Tok) (l : Addr) (items : Array Value) (n : Nat) (d : Option Addr) (sl : Array (Option Value)) :
    Meets (Builtin.«int.__rmul__» ⟨[.int a t, .ref l], []⟩) (fun _ R s => s.heap.get? l = some { cls := .type "tuple", dict := d, data := .seq items n, slots := sl } ∧ R (.ok (.ret Value.notImplemented)) s) :=
  .of_wp fun prog w A R s h => by obtain ⟨hp, g, d, tk, os⟩ := s; obtain ⟨hl, h⟩ := h; wp_walk; exact ⟨_, rfl, h⟩
theorem tup_mul (l : Addr) (v : Value) (n : Nat) (d : Option Addr) (sl : Array (Option Value)) (x : Int) (u : Tok) (h1 : 2 ≤ x) (h2 : x ≤ 1000) :
    Meets (Builtin.«tuple.__mul__» ⟨[.ref l, .int x u], []⟩) (fun _ R s => s.heap.get? l = some { cls := .type "tuple", dict := d, data := .seq [v].toArray n, slots := sl } ∧ R (.ok (.ret (Value.ref s.heap.objs.size))) { s with heap := s.heap.push { cls := Value.type "tuple", data := Data.seq (List.replicate x.toNat v).toArray }, toks := s.toks }) :=
  .of_wp fun prog w A R s h => by
    obtain ⟨hp, g, d, tk, os⟩ := s; obtain ⟨hl, h⟩ := h
    have e0 : (decide (x < -2 ^ 63) || decide (x ≥ 2 ^ 63)) = false := by rw [decide_eq_false (by omega), decide_eq_false (by omega)]; rfl
    have em : [v].toArray.isEmpty = false := rfl
    have e1 : ([v].toArray.isEmpty || x == 1) = false := by rw [em, Bool.false_or]; exact beq_false_of_ne (by omega)
    have e2 : (decide (x ≤ 0) || [v].toArray.isEmpty) = false := by rw [em, decide_eq_false (by omega)]; rfl
    have e3 : ¬ (([v].toArray.size : Int) * x > (2 ^ 63 - 1) / 8) := by show ¬ ((1 : Int) * x > _); omega
    have e4 : Tuple.tupleTooMany (([v].toArray.size : Int) * x) = false := by unfold Tuple.tupleTooMany; rw [decide_eq_false (by show ¬ ((1 : Int) * x > _); rw [sizeLine_eq]; omega)]
    have e5 : List.foldl (fun x1 x2 => x1 ++ x2) #[] (List.replicate x.toNat [v].toArray) = (List.replicate x.toNat v).toArray := by
      have gen : ∀ (m : Nat) (a : Array Value), List.foldl (fun x1 x2 => x1 ++ x2) a (List.replicate m [v].toArray) = a ++ (List.replicate m v).toArray := by
        intro m
        induction m with
        | zero => intro a; simp
        | succ m ih => intro a; rw [List.replicate_succ, List.foldl_cons, ih, List.replicate_succ]; refine Array.toList_inj.mp ?_; simp
      rw [gen]; simp
    wp_walk
    refine wpAny_ite_false (by rw [e0]; rfl) ?_
    wp_walk
    refine wpAny_ite_false (by rw [e1]; rfl) ?_
    refine wpAny_ite_false (by rw [e2]; rfl) ?_
    refine wpAny_ite_false (decide_eq_false e3) ?_
    refine wpAny_ite_false (by rw [e4]; rfl) ?_
    rw [e5]
    wp_walk
    refine wpAny_ite_false (decide_eq_false (by rw [List.size_toArray, List.length_replicate, sizeLine_eq]; omega)) ?_
    wp_walk
    exact ⟨_, rfl, h⟩
theorem tup_mul1 (l : Addr) (v : Value) (n : Nat) (d : Option Addr) (sl : Array (Option Value)) (u : Tok) :
    Meets (Builtin.«tuple.__mul__» ⟨[.ref l, .int 1 u], []⟩) (fun _ R s => s.heap.get? l = some { cls := .type "tuple", dict := d, data := .seq [v].toArray n, slots := sl } ∧ R (.ok (.ret (Value.ref l))) s) :=
  .of_wp fun prog w A R s h => by
    obtain ⟨hp, g, d, tk, os⟩ := s; obtain ⟨hl, h⟩ := h
    wp_walk
    exact ⟨_, rfl, h⟩
end TC
namespace L2
open PySem PySem.Spec PyProof.Rows
section
variable {X : Cx}
def rRepT : R2 := fun x y H Q => ∃ (a : Addr) (n : Int) (z : V), x = .ref a ∧ y = .int n ∧ H a = some (.tup [z]) ∧ 1 ≤ n ∧ n ≤ 1000 ∧ ∀ (p : Addr) H', Same H H' → H' p = some (.tup (List.replicate n.toNat z)) → Q (.ref p) H'
theorem op_repT : OpR X (binaryOp .Mult) rRepT := by
  intro pins s σ H x y v u Q I rx ry h
  obtain ⟨a, n, z, rfl, rfl, ha, h1, h2, q⟩ := h
  cases rx
  obtain ⟨t, rfl⟩ := ry
  obtain ⟨its, r, ⟨o, ho, hc, m, hd⟩, hz⟩ := I.tuple (SqT.of ha)
  obtain ⟨w, rfl, rw'⟩ := vals1 r
  obtain ⟨oc, od, oda, osl⟩ := o
  cases hc
  cases hd
  refine wpAny_binaryOp_repeat_ref (T := "tuple") (U := "int") (by decide) ⟨_, ho, rfl⟩ (fun s' => typeIs_int s' n t) TC.noFill_tuple_mul F.fills_int_mul F.slot_int_rmul TC.repeat_tuple F.slot_int_index.lookup
    (call_meets F.slot_int_rmul (typeIs_int s n t) F.entry_int_rmul (F.args_int_rmul_2 _ _) (TC.int_rmul_tup n t a _ _ _ _) ⟨ho, rfl, ⟨_, ho, rfl⟩, ?_⟩)
  by_cases e : n = 1
  · subst e
    refine call_meets F.slot_tuple_mul ⟨_, ho, rfl⟩ F.entry_tuple_mul (F.args_tuple_mul_2 _ _) (TC.tup_mul1 a w _ _ _ t) ⟨ho, ?_⟩
    exact ⟨.ref a, H, I, rfl, q a H (Same.refl _) ha⟩
  · refine call_meets F.slot_tuple_mul ⟨_, ho, rfl⟩ F.entry_tuple_mul (F.args_tuple_mul_2 _ _) (TC.tup_mul a w _ _ _ n t (by omega) h2) ⟨ho, ?_⟩
    have rel : Vals (List.replicate n.toNat z) (List.replicate n.toNat w) := by
      generalize n.toNat = k
      induction k with
      | zero => exact .nil
      | succ k ih => exact .cons rw' ih
    refine ⟨.ref s.heap.objs.size, _, I.laid (t' := s.toks) (o := .tup (List.replicate n.toNat z)) (fun b ob q => Heap.get?_push_of_some _ q) (Nat.le_refl _) ?_, rfl, q _ _ (Same.upd (I.hok.fresh (Nat.le_refl _))) upd_same⟩
    exact ⟨by rw [List.length_replicate, sizeLine_eq]; omega, _, rel, IsTup.new _ _⟩
def rCatV : R2 := fun x y H Q => ∃ a b xs ys, x = .ref a ∧ y = .ref b ∧ H a = some (.tup xs) ∧ H b = some (.tup ys) ∧ xs.length + ys.length ≤ sizeLine ∧ ∀ p H', Same H H' → H' p = some (.tup (xs ++ ys)) → Q (.ref p) H'
theorem op_catV : OpR X (binaryOp .Add) rCatV := by
  intro pins s σ H x y v u Q I rx ry h
  obtain ⟨a, b, xs, ys, rfl, rfl, ha, hb, hl, q⟩ := h
  by_cases hx : xs = []
  · cases rx
    cases ry
    obtain ⟨its, r1, ⟨⟨c1, d1, da1, sl1⟩, ho, hc, m, hd⟩, _⟩ := I.tuple (SqT.of ha)
    obtain ⟨its2, r2, ⟨⟨c2, d2, da2, sl2⟩, ho2, hc2, m2, hd2⟩, _⟩ := I.tuple (SqT.of hb)
    simp only at hc hd hc2 hd2
    subst hc hd hc2 hd2
    refine concat_meets ⟨_, ho, rfl⟩ ⟨_, ho2, rfl⟩ noFill_tuple_add seq_tuple_add PySem.F.slot_tuple_add PySem.F.entry_tuple_add (PySem.F.args_tuple_add_2 _ _) (tuple_addW0 a b its.toArray its2.toArray m m2 d1 d2 sl1 sl2 (by rw [r1.nil_iff.mpr hx]; rfl)) ⟨ho, ho2, ?_⟩
    refine ⟨.ref b, H, I, rfl, q b H (Same.refl _) ?_⟩
    rw [hx, List.nil_append]; exact hb
  · exact op_catU pins s σ H _ _ v u Q I rx ry ⟨a, b, xs, ys, rfl, rfl, ha, hb, hx, hl, q⟩
end
end L2
set_option linter.all false
namespace TM
def StepsOk (sys l : List Int) : Prop := ∀ x ∈ l, x ∈ sys ∨ -x ∈ sys
def Rch (sys : List Int) (k : Nat) (n : Int) : Prop := ∃ l : List Int, l.length = k ∧ StepsOk sys l ∧ l.sum = n
inductive Win (sys : List Int) (lo hi : Int) : Nat → Int → Prop
  | zero : Win sys lo hi 0 0
  | step {k : Nat} {n x : Int} : Win sys lo hi k n → (x ∈ sys ∨ -x ∈ sys) → lo ≤ n + x → n + x ≤ hi → Win sys lo hi (k + 1) (n + x)
theorem sum_erase {x : Int} : ∀ {l : List Int}, x ∈ l → l.sum = x + (l.erase x).sum
  | y :: l, h => by
    by_cases e : y = x
    · subst e; rw [List.erase_cons_head, List.sum_cons]
    · rw [List.erase_cons_tail (by simpa using e), List.sum_cons, List.sum_cons]
      have hm : x ∈ l := (List.mem_cons.mp h).resolve_left (fun z => e z.symm)
      have := sum_erase hm
      omega
theorem sum_neg_of : ∀ {l : List Int}, l ≠ [] → (∀ x ∈ l, x < 0) → l.sum < 0
  | [], h, _ => absurd rfl h
  | [x], _, h => by have := h x (by simp); simpa using this
  | x :: y :: l, _, h => by
    have h1 := h x (by simp)
    have h2 := sum_neg_of (l := y :: l) (by simp) fun z hz => h z (List.mem_cons_of_mem _ hz)
    rw [List.sum_cons]; omega
theorem sum_ge_of {x : Int} : ∀ {l : List Int}, x ∈ l → (∀ y ∈ l, 0 < y) → x ≤ l.sum
  | y :: l, h, hp => by
    have hs : ∀ l : List Int, (∀ y ∈ l, 0 < y) → 0 ≤ l.sum := by
      intro l
      induction l with
      | nil => intro _; exact Int.le_refl _
      | cons a l ih => intro h; have := h a (by simp); have := ih fun z hz => h z (List.mem_cons_of_mem _ hz); rw [List.sum_cons]; omega
    rw [List.sum_cons]
    rcases List.mem_cons.mp h with rfl | h
    · have := hs l fun z hz => hp z (List.mem_cons_of_mem _ hz); omega
    · have := sum_ge_of h fun z hz => hp z (List.mem_cons_of_mem _ hz)
      have := hp y (by simp); omega
section
variable {sys : List Int} (S : SysW sys)
include S
theorem step_abs {x : Int} (h : x ∈ sys ∨ -x ∈ sys) : x ≠ 0 ∧ x ≤ topC sys ∧ -topC sys ≤ x := by
  rcases h with h | h
  · have := S.pos x h; have := topC_ge S h; omega
  · have := S.pos _ h; have := topC_ge S h; omega
theorem win_of {lo hi n : Int} (hlo : lo ≤ -topC sys) (hhi : n + topC sys ≤ hi) (hn : 0 ≤ n) : ∀ (k : Nat) (l : List Int) (j : Nat) (s : Int), l.length = k → Win sys lo hi j s → StepsOk sys l → s + l.sum = n → -topC sys ≤ s → s ≤ n + topC sys → Win sys lo hi (j + k) n
  | 0, l, j, s, hk, hw, _, hs, _, _ => by
    have := List.length_eq_zero_iff.mp hk
    subst this
    rw [List.sum_nil, Int.add_zero] at hs
    subst hs
    exact hw
  | k + 1, l, j, s, hk, hw, hl, hs, h1, h2 => by
    have hne : l ≠ [] := fun z => by rw [z] at hk; simp at hk
    obtain ⟨x, hx, b1, b2, b3, b4⟩ : ∃ x ∈ l, lo ≤ s + x ∧ s + x ≤ hi ∧ -topC sys ≤ s + x ∧ s + x ≤ n + topC sys := by
      by_cases hs0 : 0 < s
      · by_cases hneg : ∃ x ∈ l, x < 0
        · obtain ⟨x, hx, hx0⟩ := hneg
          have := step_abs S (hl x hx)
          exact ⟨x, hx, by omega, by omega, by omega, by omega⟩
        · have hpos : ∀ x ∈ l, 0 < x := fun x hx => by
            have := (step_abs S (hl x hx)).1
            have : ¬ x < 0 := fun z => hneg ⟨x, hx, z⟩
            omega
          obtain ⟨x, hx⟩ := List.exists_mem_of_ne_nil l hne
          have := sum_ge_of hx hpos
          have := hpos x hx
          have := topC_pos S
          exact ⟨x, hx, by omega, by omega, by omega, by omega⟩
      · by_cases hp : ∃ x ∈ l, 0 < x
        · obtain ⟨x, hx, hx0⟩ := hp
          have := step_abs S (hl x hx)
          exact ⟨x, hx, by omega, by omega, by omega, by omega⟩
        · have : l.sum < 0 := sum_neg_of hne fun x hx => by
            have := (step_abs S (hl x hx)).1
            have : ¬ 0 < x := fun z => hp ⟨x, hx, z⟩
            omega
          omega
    have := win_of hlo hhi hn k (l.erase x) (j + 1) (s + x) (by rw [List.length_erase_of_mem hx, hk]; rfl) (.step hw (hl x hx) b1 b2) (fun y hy => hl y (List.mem_of_mem_erase hy)) (by have := sum_erase hx; omega) b3 b4
    rw [show j + (k + 1) = j + 1 + k by omega]
    exact this
theorem rch_win {lo hi n : Int} (hlo : lo ≤ -topC sys) (hhi : n + topC sys ≤ hi) (hn : 0 ≤ n) {k : Nat} (h : Rch sys k n) : Win sys lo hi k n := by
  obtain ⟨l, h1, h2, h3⟩ := h
  have hc := topC_pos S
  have := win_of S hlo hhi hn k l 0 0 h1 .zero h2 (by omega) (by omega) (by omega)
  rwa [Nat.zero_add] at this
theorem rch_ones {n : Int} (hn : 0 ≤ n) : Rch sys n.toNat n := by
  refine ⟨List.replicate n.toNat 1, List.length_replicate, fun x hx => .inl ?_, ?_⟩
  · rw [(List.mem_replicate.mp hx).2]; exact S.mem1
  · have : ∀ k : Nat, (List.replicate k (1 : Int)).sum = k := by
      intro k
      induction k with
      | zero => rfl
      | succ k ih => rw [List.replicate_succ, List.sum_cons, ih]; omega
    rw [this]; omega
end
theorem sum_map_neg : ∀ l : List Int, (l.map fun x => -x).sum = -l.sum
  | [] => rfl
  | x :: l => by rw [List.map_cons, List.sum_cons, List.sum_cons, sum_map_neg l]; omega
theorem Rch.neg {sys : List Int} {k : Nat} {a : Int} (h : Rch sys k a) : Rch sys k (-a) := by
  obtain ⟨x, a1, a2, a3⟩ := h
  refine ⟨x.map fun z => -z, by rw [List.length_map, a1], fun z hz => ?_, by rw [sum_map_neg, a3]⟩
  obtain ⟨y, hy, rfl⟩ := List.mem_map.mp hz
  rcases a2 y hy with h | h
  · exact .inr (by rw [Int.neg_neg]; exact h)
  · exact .inl h
def Dst (sys : List Int) (lo hi : Int) (k : Nat) (n : Int) : Prop := Win sys lo hi k n ∧ ∀ j, j < k → ¬ Win sys lo hi j n
theorem Dst.one {sys : List Int} {lo hi : Int} {k l : Nat} {n : Int} (h : Dst sys lo hi k n) (h' : Dst sys lo hi l n) : k = l := by
  by_cases h1 : k < l
  · exact absurd h.1 (h'.2 k h1)
  · by_cases h2 : l < k
    · exact absurd h'.1 (h.2 l h2)
    · omega
theorem dst_of {sys : List Int} {lo hi : Int} {n : Int} : ∀ (k : Nat), Win sys lo hi k n → ∃ d, d ≤ k ∧ Dst sys lo hi d n := by
  intro k
  induction k using Nat.strongRecOn with
  | ind k ih =>
    intro h
    by_cases hex : ∃ j, j < k ∧ Win sys lo hi j n
    · obtain ⟨j, hj, hw⟩ := hex
      obtain ⟨d, hd, h'⟩ := ih j hj hw
      exact ⟨d, by omega, h'⟩
    · exact ⟨k, Nat.le_refl _, h, fun j hj hw => hex ⟨j, hj, hw⟩⟩
abbrev Fd := List (Int × Int)
def keyIn (fd : Fd) (x : Int) : Bool := fd.any fun p => decide (p.1 = x)
theorem keyIn_iff {fd : Fd} {x : Int} : keyIn fd x = true ↔ x ∈ fd.map (·.1) := by
  unfold keyIn
  rw [List.any_eq_true, List.mem_map]
  constructor
  · rintro ⟨p, hp, e⟩; exact ⟨p, hp, of_decide_eq_true e⟩
  · rintro ⟨p, hp, e⟩; exact ⟨p, hp, decide_eq_true e⟩
def stepOne (lo hi h : Int) (acc : Fd × List Int) (st : Int) : Fd × List Int :=
  if lo ≤ h + st ∧ h + st ≤ hi ∧ keyIn acc.1 (h + st) = false then (acc.1 ++ [(h + st, st)], acc.2 ++ [h + st]) else acc
def stepAll (steps : List Int) (lo hi : Int) (acc : Fd × List Int) (h : Int) : Fd × List Int := steps.foldl (stepOne lo hi h) acc
def ring (steps : List Int) (lo hi : Int) (fd : Fd) (out : List Int) : Fd × List Int := out.foldl (stepAll steps lo hi) (fd, [])
def rings (steps : List Int) (lo hi : Int) : Nat → Fd × List Int
  | 0 => ([(0, 0)], [0])
  | j + 1 => ring steps lo hi (rings steps lo hi j).1 (rings steps lo hi j).2
structure WinOk (lo hi : Int) (acc : Fd × List Int) : Prop where
  nd : (acc.1.map (·.1)).Nodup
  inw : ∀ x ∈ acc.1.map (·.1), lo ≤ x ∧ x ≤ hi
  len : acc.2.length ≤ acc.1.length
theorem WinOk.one {lo hi h : Int} {acc : Fd × List Int} (w : WinOk lo hi acc) (st : Int) : WinOk lo hi (stepOne lo hi h acc st) := by
  unfold stepOne
  split
  · rename_i c
    obtain ⟨c1, c2, c3⟩ := c
    refine ⟨?_, ?_, by simp only [List.length_append, List.length_singleton]; have := w.len; omega⟩
    · show ((acc.1 ++ [(h + st, st)]).map (·.1)).Nodup
      rw [List.map_append]
      refine List.nodup_append.mpr ⟨w.nd, by simp, fun x hx y hy => ?_⟩
      rw [List.map_singleton, List.mem_singleton] at hy
      subst hy
      intro e
      subst e
      have := keyIn_iff.mpr hx
      rw [c3] at this; cases this
    · show ∀ x ∈ (acc.1 ++ [(h + st, st)]).map (·.1), _
      rw [List.map_append]
      intro x hx
      rcases List.mem_append.mp hx with hx | hx
      · exact w.inw x hx
      · rw [List.map_singleton, List.mem_singleton] at hx
        subst hx; exact ⟨c1, c2⟩
  · exact w
theorem WinOk.fold {lo hi h : Int} : ∀ (l : List Int) {acc : Fd × List Int}, WinOk lo hi acc → WinOk lo hi (l.foldl (stepOne lo hi h) acc)
  | [], _, w => w
  | s :: l, _, w => WinOk.fold l (w.one s)
theorem WinOk.all {steps : List Int} {lo hi : Int} : ∀ (out : List Int) {acc : Fd × List Int}, WinOk lo hi acc → WinOk lo hi (out.foldl (stepAll steps lo hi) acc)
  | [], _, w => w
  | h :: out, _, w => WinOk.all out (WinOk.fold steps w)
theorem nodup_len {α : Type} [DecidableEq α] : ∀ (l r : List α), l.Nodup → (∀ x ∈ l, x ∈ r) → l.length ≤ r.length
  | [], r, _, _ => Nat.zero_le _
  | a :: l, r, hn, hs => by
    have ha := hs a List.mem_cons_self
    obtain ⟨h1, h2⟩ := List.nodup_cons.mp hn
    have := nodup_len l (r.erase a) h2 (fun x hx => (List.mem_erase_of_ne (fun z => h1 (by rw [← z]; exact hx))).mpr (hs x (List.mem_cons_of_mem _ hx)))
    rw [List.length_erase_of_mem ha] at this
    have := List.length_pos_of_mem ha
    rw [List.length_cons]; omega
theorem WinOk.size {lo hi : Int} {acc : Fd × List Int} (w : WinOk lo hi acc) : acc.1.length ≤ (hi - lo + 1).toNat := by
  have := nodup_len (acc.1.map (·.1)) ((List.range (hi - lo + 1).toNat).map fun (k : Nat) => lo + (k : Int)) w.nd fun x hx => by
    have := w.inw x hx
    exact List.mem_map.mpr ⟨(x - lo).toNat, List.mem_range.mpr (by omega), by omega⟩
  rwa [List.length_map, List.length_map, List.length_range] at this
structure Mid (sys steps : List Int) (lo hi : Int) (j : Nat) (fd0 : Fd) (acc : Fd × List Int) : Prop where
  ext : ∃ ex : Fd, acc.1 = fd0 ++ ex ∧ acc.2 = ex.map (·.1) ∧ ∀ p ∈ ex, p.2 ∈ steps ∧ Dst sys lo hi j (p.1 - p.2) ∧ lo ≤ p.1 ∧ p.1 ≤ hi
theorem Mid.one {sys steps : List Int} {lo hi : Int} {j : Nat} {fd0 : Fd} {acc : Fd × List Int} (m : Mid sys steps lo hi j fd0 acc) {h st : Int} (hh : Dst sys lo hi j h) (hs : st ∈ steps) : Mid sys steps lo hi j fd0 (stepOne lo hi h acc st) := by
  unfold stepOne
  split
  · rename_i c
    obtain ⟨ex, e1, e2, e3⟩ := m.ext
    refine ⟨ex ++ [(h + st, st)], by rw [e1, List.append_assoc], by rw [e2, List.map_append]; rfl, fun p hp => ?_⟩
    rcases List.mem_append.mp hp with hp | hp
    · exact e3 p hp
    · rw [List.mem_singleton.mp hp]
      exact ⟨hs, by show Dst sys lo hi j (h + st - st); rw [show h + st - st = h by omega]; exact hh, c.1, c.2.1⟩
  · exact m
theorem Mid.fold {sys steps : List Int} {lo hi : Int} {j : Nat} {fd0 : Fd} {h : Int} (hh : Dst sys lo hi j h) : ∀ (l : List Int) {acc : Fd × List Int}, (∀ s ∈ l, s ∈ steps) → Mid sys steps lo hi j fd0 acc → Mid sys steps lo hi j fd0 (l.foldl (stepOne lo hi h) acc)
  | [], _, _, m => m
  | s :: l, _, hl, m => Mid.fold hh l (fun z hz => hl z (List.mem_cons_of_mem _ hz)) (m.one hh (hl s (by simp)))
theorem Mid.all {sys steps : List Int} {lo hi : Int} {j : Nat} {fd0 : Fd} : ∀ (out : List Int) {acc : Fd × List Int}, (∀ h ∈ out, Dst sys lo hi j h) → Mid sys steps lo hi j fd0 acc → Mid sys steps lo hi j fd0 (out.foldl (stepAll steps lo hi) acc)
  | [], _, _, m => m
  | h :: out, _, ho, m => Mid.all out (fun z hz => ho z (List.mem_cons_of_mem _ hz)) (Mid.fold (ho h (by simp)) steps (fun _ z => z) m)
theorem one_keep {lo hi h : Int} {acc : Fd × List Int} {st x : Int} (hx : x ∈ acc.1.map (·.1)) : x ∈ (stepOne lo hi h acc st).1.map (·.1) := by
  unfold stepOne
  split
  · show x ∈ (acc.1 ++ _).map (·.1)
    rw [List.map_append]; exact List.mem_append_left _ hx
  · exact hx
theorem one_has {lo hi h : Int} {acc : Fd × List Int} {st : Int} (h1 : lo ≤ h + st) (h2 : h + st ≤ hi) : h + st ∈ (stepOne lo hi h acc st).1.map (·.1) := by
  unfold stepOne
  by_cases c : keyIn acc.1 (h + st) = false
  · rw [if_pos ⟨h1, h2, c⟩]
    show h + st ∈ (acc.1 ++ _).map (·.1)
    rw [List.map_append]; exact List.mem_append_right _ (by simp)
  · rw [if_neg fun z => c z.2.2]
    exact keyIn_iff.mp (by simpa using c)
theorem fold_keep {lo hi h : Int} {x : Int} : ∀ (l : List Int) {acc : Fd × List Int}, x ∈ acc.1.map (·.1) → x ∈ (l.foldl (stepOne lo hi h) acc).1.map (·.1)
  | [], _, hx => hx
  | s :: l, _, hx => fold_keep l (one_keep hx)
theorem fold_has {lo hi h st : Int} (h1 : lo ≤ h + st) (h2 : h + st ≤ hi) : ∀ (l : List Int) {acc : Fd × List Int}, st ∈ l → h + st ∈ (l.foldl (stepOne lo hi h) acc).1.map (·.1)
  | s :: l, acc, hm => by
    rcases List.mem_cons.mp hm with rfl | hm
    · exact fold_keep l (one_has h1 h2)
    · exact fold_has h1 h2 l hm
theorem all_keep {steps : List Int} {lo hi : Int} {x : Int} : ∀ (out : List Int) {acc : Fd × List Int}, x ∈ acc.1.map (·.1) → x ∈ (out.foldl (stepAll steps lo hi) acc).1.map (·.1)
  | [], _, hx => hx
  | h :: out, _, hx => all_keep out (fold_keep steps hx)
theorem all_has {steps : List Int} {lo hi h st : Int} (h1 : lo ≤ h + st) (h2 : h + st ≤ hi) (hs : st ∈ steps) : ∀ (out : List Int) {acc : Fd × List Int}, h ∈ out → h + st ∈ (out.foldl (stepAll steps lo hi) acc).1.map (·.1)
  | g :: out, acc, hm => by
    rcases List.mem_cons.mp hm with rfl | hm
    · exact all_keep out (fold_has h1 h2 steps hs)
    · exact all_has h1 h2 hs out hm
structure RingOk (sys steps : List Int) (lo hi : Int) (j : Nat) (acc : Fd × List Int) : Prop where
  win : WinOk lo hi acc
  keys : ∀ x, x ∈ acc.1.map (·.1) ↔ ∃ i, i ≤ j ∧ Win sys lo hi i x
  out : ∀ x, x ∈ acc.2 ↔ Dst sys lo hi j x
  step : ∀ p ∈ acc.1, p = (0, 0) ∨ ∃ i, p.2 ∈ steps ∧ Dst sys lo hi (i + 1) p.1 ∧ Dst sys lo hi i (p.1 - p.2)
theorem ring_zero {sys steps : List Int} {lo hi : Int} (h1 : lo ≤ 0) (h2 : 0 ≤ hi) : RingOk sys steps lo hi 0 (rings steps lo hi 0) := by
  refine ⟨⟨by simp [rings], fun x hx => ?_, by simp [rings]⟩, fun x => ?_, fun x => ?_, fun p hp => ?_⟩
  · simp [rings] at hx; omega
  · constructor
    · intro hx
      have e : x = 0 := by simpa [rings] using hx
      subst e; exact ⟨0, Nat.le_refl _, .zero⟩
    · rintro ⟨i, hi, hw⟩
      have e : i = 0 := by omega
      subst e; cases hw; simp [rings]
  · constructor
    · intro hx
      have e : x = 0 := by simpa [rings] using hx
      subst e; exact ⟨.zero, fun j hj => absurd hj (by omega)⟩
    · rintro ⟨hw, _⟩
      cases hw; simp [rings]
  · left; simpa [rings] using hp
theorem ring_succ {sys steps : List Int} (hst : ∀ x, x ∈ steps ↔ x ∈ sys ∨ -x ∈ sys) {lo hi : Int} {j : Nat} {fd : Fd} {out : List Int} (r : RingOk sys steps lo hi j (fd, out)) : RingOk sys steps lo hi (j + 1) (ring steps lo hi fd out) := by
  have w0 : WinOk lo hi (fd, []) := ⟨r.win.nd, r.win.inw, Nat.zero_le _⟩
  have w := WinOk.all (steps := steps) out w0
  have m : Mid sys steps lo hi j fd (ring steps lo hi fd out) := Mid.all out (fun h hh => (r.out h).mp hh) ⟨⟨[], by simp, rfl, fun p hp => absurd hp (by simp)⟩⟩
  obtain ⟨ex, e1, e2, e3⟩ := m.ext
  have new : ∀ p ∈ ex, Dst sys lo hi (j + 1) p.1 := fun p hp => by
    obtain ⟨a1, a2, a3, a4⟩ := e3 p hp
    have hw : Win sys lo hi (j + 1) p.1 := by
      have := Win.step a2.1 ((hst _).mp a1) (by omega) (by omega)
      rwa [show p.1 - p.2 + p.2 = p.1 by omega] at this
    refine ⟨hw, fun i hi' hwi => ?_⟩
    have hk : p.1 ∈ fd.map (·.1) := (r.keys _).mpr ⟨i, by omega, hwi⟩
    have nd : ((fd ++ ex).map (·.1)).Nodup := by rw [← e1]; exact w.nd
    rw [List.map_append] at nd
    exact (List.nodup_append.mp nd).2.2 _ hk _ (List.mem_map.mpr ⟨p, hp, rfl⟩) rfl
  have cov : ∀ x, Dst sys lo hi (j + 1) x → x ∈ (ring steps lo hi fd out).1.map (·.1) := fun x hx => by
    obtain ⟨hw, hn⟩ := hx
    cases hw with
    | step hy hs b1 b2 =>
      rename_i y s
      have hd : Dst sys lo hi j y := ⟨hy, fun i hi' hwi => hn (i + 1) (by omega) (.step hwi hs b1 b2)⟩
      exact all_has b1 b2 ((hst _).mpr hs) out ((r.out y).mpr hd)
  refine ⟨w, fun x => ?_, fun x => ?_, fun p hp => ?_⟩
  · constructor
    · intro hx
      rw [e1, List.map_append] at hx
      rcases List.mem_append.mp hx with hx | hx
      · obtain ⟨i, h1, h2⟩ := (r.keys x).mp hx
        exact ⟨i, by omega, h2⟩
      · obtain ⟨p, hp, rfl⟩ := List.mem_map.mp hx
        exact ⟨j + 1, Nat.le_refl _, (new p hp).1⟩
    · rintro ⟨i, h1, h2⟩
      obtain ⟨d, hd, hD⟩ := dst_of i h2
      by_cases hj : d ≤ j
      · exact all_keep out ((r.keys x).mpr ⟨d, hj, hD.1⟩)
      · have : d = j + 1 := by omega
        subst this
        exact cov x hD
  · rw [e2]
    constructor
    · intro hx
      obtain ⟨p, hp, rfl⟩ := List.mem_map.mp hx
      exact new p hp
    · intro hx
      have := cov x hx
      rw [e1, List.map_append] at this
      rcases List.mem_append.mp this with h | h
      · obtain ⟨i, h1, h2⟩ := (r.keys x).mp h
        exact absurd h2 (hx.2 i (by omega))
      · exact h
  · rw [e1] at hp
    rcases List.mem_append.mp hp with hp | hp
    · exact r.step p hp
    · exact .inr ⟨j, (e3 p hp).1, new p hp, (e3 p hp).2.1⟩
theorem ring_ok {sys steps : List Int} (hst : ∀ x, x ∈ steps ↔ x ∈ sys ∨ -x ∈ sys) {lo hi : Int} (h1 : lo ≤ 0) (h2 : 0 ≤ hi) : ∀ j, RingOk sys steps lo hi j (rings steps lo hi j)
  | 0 => ring_zero h1 h2
  | j + 1 => ring_succ hst (ring_ok hst h1 h2 j)
end TM
set_option linter.all false
set_option maxRecDepth 100000
namespace TM
def look (fd : Fd) (x : Int) : Int := ((fd.find? fun p => decide (p.1 = x)).map (·.2)).getD 0
theorem look_of : ∀ {fd : Fd} {p : Int × Int}, (fd.map (·.1)).Nodup → p ∈ fd → look fd p.1 = p.2
  | q :: fd, p, hn, h => by
    rw [List.map_cons, List.nodup_cons] at hn
    unfold look
    rcases List.mem_cons.mp h with rfl | h
    · rw [List.find?_cons, decide_eq_true rfl]; rfl
    · have ne : ¬ q.1 = p.1 := fun e => hn.1 (List.mem_map.mpr ⟨p, h, e.symm⟩)
      rw [List.find?_cons_of_neg (by simpa using ne)]
      exact look_of hn.2 h
def backL (fd : Fd) : Nat → Int → List Int
  | 0, _ => []
  | k + 1, n => look fd n :: backL fd k (n - look fd n)
theorem dst_zero {sys : List Int} {lo hi : Int} : Dst sys lo hi 0 0 := ⟨.zero, fun j hj => absurd hj (by omega)⟩
theorem dst_zero_of {sys : List Int} {lo hi n : Int} (h : Dst sys lo hi 0 n) : n = 0 := by
  have h := h.1
  cases h; rfl
theorem ring_look {sys steps : List Int} {lo hi : Int} {d k : Nat} {fd : Fd} {out : List Int} {n : Int} (r : RingOk sys steps lo hi d (fd, out)) (hk : k + 1 ≤ d) (h : Dst sys lo hi (k + 1) n) :
    keyIn fd n = true ∧ look fd n ∈ steps ∧ Dst sys lo hi k (n - look fd n) := by
  have hm : n ∈ fd.map (·.1) := (r.keys n).mpr ⟨k + 1, hk, h.1⟩
  refine ⟨keyIn_iff.mpr hm, ?_⟩
  obtain ⟨p, hp, rfl⟩ := List.mem_map.mp hm
  rw [look_of r.win.nd hp]
  rcases r.step p hp with e | ⟨i, h1, h2, h3⟩
  · rw [e] at h
    exact absurd (h.one dst_zero) (by omega)
  · have e := h.one h2
    have e : i = k := by omega
    subst e
    exact ⟨h1, h3⟩
theorem back_ok {sys steps : List Int} (hst : ∀ x, x ∈ steps ↔ x ∈ sys ∨ -x ∈ sys) {lo hi : Int} {d : Nat} {fd : Fd} {out : List Int} (r : RingOk sys steps lo hi d (fd, out)) : ∀ (k : Nat) (n : Int), k ≤ d → Dst sys lo hi k n → (backL fd k n).length = k ∧ StepsOk sys (backL fd k n) ∧ (backL fd k n).sum = n
  | 0, n, _, h => by rw [dst_zero_of h]; exact ⟨rfl, fun x hx => absurd hx (by simp [backL]), rfl⟩
  | k + 1, n, hk, h => by
    obtain ⟨_, h2, h3⟩ := ring_look r hk h
    obtain ⟨a, b, c⟩ := back_ok hst r k (n - look fd n) (by omega) h3
    unfold backL
    refine ⟨by rw [List.length_cons, a], fun x hx => ?_, by rw [List.sum_cons, c]; omega⟩
    rcases List.mem_cons.mp hx with rfl | hx
    · exact (hst _).mp h2
    · exact b x hx
def stepsOf (sys : List Int) : List Int := sys ++ sys.map fun c => -c
theorem mem_stepsOf {sys : List Int} (x : Int) : x ∈ stepsOf sys ↔ x ∈ sys ∨ -x ∈ sys := by
  unfold stepsOf
  rw [List.mem_append, List.mem_map]
  constructor
  · rintro (h | ⟨c, h, rfl⟩)
    · exact .inl h
    · exact .inr (by rw [Int.neg_neg]; exact h)
  · rintro (h | h)
    · exact .inl h
    · exact .inr ⟨-x, h, by omega⟩
def HandL (sys : List Int) (n : Int) (L : List Int) : Prop := ∃ d, Dst sys (-topC sys) (n + topC sys) d n ∧ L = backL (rings (stepsOf sys) (-topC sys) (n + topC sys) d).1 d n
theorem HandL.one {sys : List Int} {n : Int} {L M : List Int} (h : HandL sys n L) (h' : HandL sys n M) : L = M := by
  obtain ⟨d, h1, rfl⟩ := h
  obtain ⟨e, h2, rfl⟩ := h'
  rw [h1.one h2]
section
variable {sys : List Int} (S : SysW sys)
include S
theorem topC_one : 1 ≤ topC sys := topC_ge S (List.mem_of_getElem? S.one)
theorem hand_dst {n : Int} (hn : 0 ≤ n) : ∃ d, d ≤ n.toNat ∧ Dst sys (-topC sys) (n + topC sys) d n :=
  dst_of _ (rch_win S (Int.le_refl _) (Int.le_refl _) hn (rch_ones S hn))
theorem hand_ring {n : Int} (hn : 0 ≤ n) (j : Nat) : RingOk sys (stepsOf sys) (-topC sys) (n + topC sys) j (rings (stepsOf sys) (-topC sys) (n + topC sys) j) := by
  have := topC_one S
  exact ring_ok mem_stepsOf (by omega) (by omega) j
theorem hand_ok {n : Int} (hn : 0 ≤ n) {L : List Int} (h : HandL sys n L) : StepsOk sys L ∧ L.sum = n ∧ L.length ≤ n.toNat ∧ ∀ j, Rch sys j n → L.length ≤ j := by
  obtain ⟨d, hd, rfl⟩ := h
  obtain ⟨a, b, c⟩ := back_ok mem_stepsOf (out := (rings (stepsOf sys) (-topC sys) (n + topC sys) d).2) (hand_ring S hn d) d n (Nat.le_refl _) hd
  have least : ∀ j, Rch sys j n → d ≤ j := fun j hj => Nat.le_of_not_lt fun z => hd.2 j z (rch_win S (Int.le_refl _) (Int.le_refl _) hn hj)
  refine ⟨b, c, ?_, fun j hj => by rw [a]; exact least j hj⟩
  rw [a]; exact least _ (rch_ones S hn)
end
def posL (L : List Int) : List Int := L.filter fun x => decide (0 < x)
def negL (L : List Int) : List Int := (L.filter fun x => decide (x < 0)).map fun x => -x
theorem ones_all : ∀ {L : List Int}, (∀ x ∈ L, x = 1 ∨ x = -1) → (L.length : Int) ≤ L.sum → ∀ x ∈ L, x = 1
  | [], _, _, x, hx => by cases hx
  | y :: L, h, hs, x, hx => by
    rw [List.sum_cons, List.length_cons] at hs
    have le : ∀ M : List Int, (∀ x ∈ M, x = 1 ∨ x = -1) → M.sum ≤ (M.length : Int) := by
      intro M
      induction M with
      | nil => intro _; exact Int.le_refl _
      | cons z M ih =>
        intro hM
        have h1 := ih fun w hw => hM w (List.mem_cons_of_mem _ hw)
        have h2 := hM z (by simp)
        rw [List.sum_cons, List.length_cons]; omega
    have h1 := le L fun w hw => h w (List.mem_cons_of_mem _ hw)
    have h2 := h y (by simp)
    have ih := ones_all (L := L) (fun w hw => h w (List.mem_cons_of_mem _ hw)) (by omega)
    rcases List.mem_cons.mp hx with rfl | hx
    · omega
    · exact ih x hx
end TM
namespace L2
open PySem PySem.Spec PyProof.Rows
def fdK (fd : TM.Fd) : List (Key × V) := fd.map fun p => (Sum.inl p.1, V.int p.2)
theorem valV_fdK : ∀ (fd : TM.Fd) (x : Int), valV (fdK fd) (Sum.inl x) = if TM.keyIn fd x = true then some (.int (TM.look fd x)) else none
  | [], x => rfl
  | p :: fd, x => by
    show valV ((Sum.inl p.1, V.int p.2) :: fdK fd) (Sum.inl x) = _
    by_cases e : p.1 = x
    · rw [valV_pos (by rw [e])]
      have h1 : TM.keyIn (p :: fd) x = true := by unfold TM.keyIn; rw [List.any_cons, decide_eq_true e]; rfl
      rw [if_pos h1]
      unfold TM.look
      rw [List.find?_cons, decide_eq_true e]; rfl
    · rw [valV_neg (fun z => e (Sum.inl.inj z)), valV_fdK fd x]
      have h1 : TM.keyIn (p :: fd) x = TM.keyIn fd x := by unfold TM.keyIn; rw [List.any_cons, decide_eq_false e]; rfl
      have h2 : TM.look (p :: fd) x = TM.look fd x := by unfold TM.look; rw [List.find?_cons_of_neg (by simpa using e)]
      rw [h1, h2]
theorem has_fdK (fd : TM.Fd) (x : Int) : (valV (fdK fd) (Sum.inl x)).isSome = TM.keyIn fd x := by
  rw [valV_fdK]
  cases TM.keyIn fd x <;> rfl
theorem put_fdK {fd : TM.Fd} {x s : Int} (h : TM.keyIn fd x = false) : putK (fdK fd) (Sum.inl x) (.int s) = fdK (fd ++ [(x, s)]) := by
  have e : ((fdK fd).any fun kv => decide (kv.1 = Sum.inl x)) = false := by
    rw [← h]
    unfold TM.keyIn fdK
    rw [List.any_map]
    congr 1
    funext p
    show decide ((Sum.inl p.1 : Key) = Sum.inl x) = decide (p.1 = x)
    rw [decide_eq_decide]
    exact ⟨Sum.inl.inj, fun z => by rw [z]⟩
  unfold putK
  rw [if_neg (by rw [e]; exact Bool.false_ne_true)]
  unfold fdK
  rw [List.map_append]; rfl
theorem fdK_len (fd : TM.Fd) : (fdK fd).length = fd.length := List.length_map ..
def SameX (f : Addr) (H H' : Hp) : Prop := ∀ b o, b ≠ f → H b = some o → H' b = some o
theorem SameX.refl {f : Addr} (H : Hp) : SameX f H H := fun _ _ _ e => e
theorem SameX.trans {f : Addr} {H H' H'' : Hp} (h : SameX f H H') (h' : SameX f H' H'') : SameX f H H'' := fun b o n e => h' b o n (h b o n e)
theorem Same.x {f : Addr} {H H' : Hp} (h : Same H H') : SameX f H H' := fun b o _ e => h b o e
theorem SameX.put {f : Addr} {H : Hp} {o : HO} : SameX f H (upd H f o) := fun b u n e => by rw [upd_ne n]; exact e
end L2
set_option linter.all false
set_option maxRecDepth 100000
set_option maxHeartbeats 8000000
set_option Elab.async false
namespace TK
open PySem L2
def top (i : Nat) : Stmt := PySem.Challenge.pw_tillcoins_k05_sums_and_ways_refused.main.body.getD i (.Pass ⟨0, 0, 0, 0⟩)
abbrev s__law_cell : Stmt := top 34
abbrev s__law_mix : Stmt := top 35
abbrev s__law_system : Stmt := top 36
abbrev s_is_number : Stmt := top 1
abbrev s_is_rising : Stmt := top 12
abbrev s_is_system : Stmt := top 11
abbrev s_checked : Stmt := top 10
abbrev s_refuse_bad_sum : Stmt := top 22
abbrev s_by_fewest : Stmt := top 18
abbrev s_by_greatest : Stmt := top 17
abbrev s_count_ways : Stmt := top 19
abbrev s_fewest_up_to : Stmt := top 24
abbrev s_fewest : Stmt := top 16
abbrev s_excess : Stmt := top 20
abbrev s_one_step_further : Stmt := top 31
abbrev s_last_steps : Stmt := top 30
abbrev s_steps_back : Stmt := top 32
abbrev s_handed : Stmt := top 28
abbrev s_fewest_handed : Stmt := top 29
abbrev s_is_way : Stmt := top 23
abbrev s_sum_of : Stmt := top 21
abbrev s__law_deed : Stmt := top 37
abbrev s__law_told : Stmt := top 38
abbrev s_law : Stmt := top 39
structure Adr where
  f__law_cell : Addr
  d__law_cell : FuncData
  f__law_mix : Addr
  d__law_mix : FuncData
  f__law_system : Addr
  d__law_system : FuncData
  f_is_number : Addr
  d_is_number : FuncData
  f_is_rising : Addr
  d_is_rising : FuncData
  f_is_system : Addr
  d_is_system : FuncData
  f_checked : Addr
  d_checked : FuncData
  f_refuse_bad_sum : Addr
  d_refuse_bad_sum : FuncData
  f_by_fewest : Addr
  d_by_fewest : FuncData
  f_by_greatest : Addr
  d_by_greatest : FuncData
  f_count_ways : Addr
  d_count_ways : FuncData
  f_fewest_up_to : Addr
  d_fewest_up_to : FuncData
  f_fewest : Addr
  d_fewest : FuncData
  f_excess : Addr
  d_excess : FuncData
  f_one_step_further : Addr
  d_one_step_further : FuncData
  f_last_steps : Addr
  d_last_steps : FuncData
  f_steps_back : Addr
  d_steps_back : FuncData
  f_handed : Addr
  d_handed : FuncData
  f_fewest_handed : Addr
  d_fewest_handed : FuncData
  f_is_way : Addr
  d_is_way : FuncData
  f_sum_of : Addr
  d_sum_of : FuncData
  f__law_deed : Addr
  d__law_deed : FuncData
  f__law_told : Addr
  d__law_told : FuncData
  f_law : Addr
  d_law : FuncData
  c_BadSum : Addr
  c_BadSystem : Addr
  c_BadWay : Addr
  c_TillError : Addr
structure Txt (K : PySem.W.Frag) (mg : Str → Option Value) (t : Adr) : Prop where
  F__law_cell : Fun K "_law_cell" "_law_cell" s__law_cell t.f__law_cell t.d__law_cell
  b__law_cell : Binds K t.d__law_cell ["_law_script", "_law_k"] []
  m__law_cell : mg "_law_cell" = some (.ref t.f__law_cell)
  k__law_cell : PySem.W.keepIn K (.ref t.f__law_cell) = true
  F__law_mix : Fun K "_law_mix" "_law_mix" s__law_mix t.f__law_mix t.d__law_mix
  b__law_mix : Binds K t.d__law_mix ["_law_cell_here", "_law_prime", "_law_many"] []
  m__law_mix : mg "_law_mix" = some (.ref t.f__law_mix)
  k__law_mix : PySem.W.keepIn K (.ref t.f__law_mix) = true
  F__law_system : Fun K "_law_system" "_law_system" s__law_system t.f__law_system t.d__law_system
  b__law_system : Binds K t.d__law_system ["_law_script", "_law_at"] []
  m__law_system : mg "_law_system" = some (.ref t.f__law_system)
  k__law_system : PySem.W.keepIn K (.ref t.f__law_system) = true
  F_is_number : Fun K "is_number" "is_number" s_is_number t.f_is_number t.d_is_number
  b_is_number : Binds K t.d_is_number ["thing", "least", "most"] []
  m_is_number : mg "is_number" = some (.ref t.f_is_number)
  k_is_number : PySem.W.keepIn K (.ref t.f_is_number) = true
  F_is_rising : Fun K "is_rising" "is_rising" s_is_rising t.f_is_rising t.d_is_rising
  b_is_rising : Binds K t.d_is_rising ["coins"] []
  m_is_rising : mg "is_rising" = some (.ref t.f_is_rising)
  k_is_rising : PySem.W.keepIn K (.ref t.f_is_rising) = true
  F_is_system : Fun K "is_system" "is_system" s_is_system t.f_is_system t.d_is_system
  b_is_system : Binds K t.d_is_system ["thing"] []
  m_is_system : mg "is_system" = some (.ref t.f_is_system)
  k_is_system : PySem.W.keepIn K (.ref t.f_is_system) = true
  F_checked : Fun K "checked" "checked" s_checked t.f_checked t.d_checked
  b_checked : Binds K t.d_checked ["system"] []
  m_checked : mg "checked" = some (.ref t.f_checked)
  k_checked : PySem.W.keepIn K (.ref t.f_checked) = true
  F_refuse_bad_sum : Fun K "refuse_bad_sum" "refuse_bad_sum" s_refuse_bad_sum t.f_refuse_bad_sum t.d_refuse_bad_sum
  b_refuse_bad_sum : Binds K t.d_refuse_bad_sum ["system", "number"] []
  m_refuse_bad_sum : mg "refuse_bad_sum" = some (.ref t.f_refuse_bad_sum)
  k_refuse_bad_sum : PySem.W.keepIn K (.ref t.f_refuse_bad_sum) = true
  F_by_fewest : Fun K "by_fewest" "by_fewest" s_by_fewest t.f_by_fewest t.d_by_fewest
  b_by_fewest : Binds K t.d_by_fewest ["system", "number"] []
  m_by_fewest : mg "by_fewest" = some (.ref t.f_by_fewest)
  k_by_fewest : PySem.W.keepIn K (.ref t.f_by_fewest) = true
  F_by_greatest : Fun K "by_greatest" "by_greatest" s_by_greatest t.f_by_greatest t.d_by_greatest
  b_by_greatest : Binds K t.d_by_greatest ["system", "number"] []
  m_by_greatest : mg "by_greatest" = some (.ref t.f_by_greatest)
  k_by_greatest : PySem.W.keepIn K (.ref t.f_by_greatest) = true
  F_count_ways : Fun K "count_ways" "count_ways" s_count_ways t.f_count_ways t.d_count_ways
  b_count_ways : Binds K t.d_count_ways ["system", "number"] []
  m_count_ways : mg "count_ways" = some (.ref t.f_count_ways)
  k_count_ways : PySem.W.keepIn K (.ref t.f_count_ways) = true
  F_fewest_up_to : Fun K "fewest_up_to" "fewest_up_to" s_fewest_up_to t.f_fewest_up_to t.d_fewest_up_to
  b_fewest_up_to : Binds K t.d_fewest_up_to ["system", "last"] []
  m_fewest_up_to : mg "fewest_up_to" = some (.ref t.f_fewest_up_to)
  k_fewest_up_to : PySem.W.keepIn K (.ref t.f_fewest_up_to) = true
  F_fewest : Fun K "fewest" "fewest" s_fewest t.f_fewest t.d_fewest
  b_fewest : Binds K t.d_fewest ["system", "number"] []
  m_fewest : mg "fewest" = some (.ref t.f_fewest)
  k_fewest : PySem.W.keepIn K (.ref t.f_fewest) = true
  F_excess : Fun K "excess" "excess" s_excess t.f_excess t.d_excess
  b_excess : Binds K t.d_excess ["system", "number"] []
  m_excess : mg "excess" = some (.ref t.f_excess)
  k_excess : PySem.W.keepIn K (.ref t.f_excess) = true
  F_one_step_further : Fun K "one_step_further" "one_step_further" s_one_step_further t.f_one_step_further t.d_one_step_further
  b_one_step_further : Binds K t.d_one_step_further ["outermost", "steps", "found", "least", "most"] []
  m_one_step_further : mg "one_step_further" = some (.ref t.f_one_step_further)
  k_one_step_further : PySem.W.keepIn K (.ref t.f_one_step_further) = true
  F_last_steps : Fun K "last_steps" "last_steps" s_last_steps t.f_last_steps t.d_last_steps
  b_last_steps : Binds K t.d_last_steps ["system", "number"] []
  m_last_steps : mg "last_steps" = some (.ref t.f_last_steps)
  k_last_steps : PySem.W.keepIn K (.ref t.f_last_steps) = true
  F_steps_back : Fun K "steps_back" "steps_back" s_steps_back t.f_steps_back t.d_steps_back
  b_steps_back : Binds K t.d_steps_back ["found", "number"] []
  m_steps_back : mg "steps_back" = some (.ref t.f_steps_back)
  k_steps_back : PySem.W.keepIn K (.ref t.f_steps_back) = true
  F_handed : Fun K "handed" "handed" s_handed t.f_handed t.d_handed
  b_handed : Binds K t.d_handed ["system", "number"] []
  m_handed : mg "handed" = some (.ref t.f_handed)
  k_handed : PySem.W.keepIn K (.ref t.f_handed) = true
  F_fewest_handed : Fun K "fewest_handed" "fewest_handed" s_fewest_handed t.f_fewest_handed t.d_fewest_handed
  b_fewest_handed : Binds K t.d_fewest_handed ["system", "number"] []
  m_fewest_handed : mg "fewest_handed" = some (.ref t.f_fewest_handed)
  k_fewest_handed : PySem.W.keepIn K (.ref t.f_fewest_handed) = true
  F_is_way : Fun K "is_way" "is_way" s_is_way t.f_is_way t.d_is_way
  b_is_way : Binds K t.d_is_way ["system", "thing"] []
  m_is_way : mg "is_way" = some (.ref t.f_is_way)
  k_is_way : PySem.W.keepIn K (.ref t.f_is_way) = true
  F_sum_of : Fun K "sum_of" "sum_of" s_sum_of t.f_sum_of t.d_sum_of
  b_sum_of : Binds K t.d_sum_of ["system", "way"] []
  m_sum_of : mg "sum_of" = some (.ref t.f_sum_of)
  k_sum_of : PySem.W.keepIn K (.ref t.f_sum_of) = true
  F__law_deed : Fun K "_law_deed" "_law_deed" s__law_deed t.f__law_deed t.d__law_deed
  b__law_deed : Binds K t.d__law_deed ["_law_way", "_law_system_here", "_law_number"] []
  m__law_deed : mg "_law_deed" = some (.ref t.f__law_deed)
  k__law_deed : PySem.W.keepIn K (.ref t.f__law_deed) = true
  F__law_told : Fun K "_law_told" "_law_told" s__law_told t.f__law_told t.d__law_told
  b__law_told : Binds K t.d__law_told ["_law_way", "_law_system_here", "_law_number"] []
  m__law_told : mg "_law_told" = some (.ref t.f__law_told)
  k__law_told : PySem.W.keepIn K (.ref t.f__law_told) = true
  F_law : Fun K "law" "law" s_law t.f_law t.d_law
  b_law : Binds K t.d_law ["_law_script"] []
  m_law : mg "law" = some (.ref t.f_law)
  k_law : PySem.W.keepIn K (.ref t.f_law) = true
  mc_BadSum : mg "BadSum" = some (.ref t.c_BadSum)
  ei_BadSum : PySem.W.excIn K t.c_BadSum bmVE "ValueError.__new__" = true
  x0_BadSum : PySem.W.findIn K (.ref t.c_BadSum) "__getattribute__" = some (some (.builtin "BaseException.__getattribute__"))
  x1_BadSum : PySem.W.findIn K (.ref t.c_BadSum) "__getattr__" = some none
  x2_BadSum : PySem.W.findIn K (.ref t.c_BadSum) "__class__" = some (some (.builtin "object.__class__"))
  x3_BadSum : PySem.W.mroIn K t.c_BadSum (.type "object") = some true
  x4_BadSum : PySem.W.mroIn K t.c_BadSum (.type "BaseException") = some true
  x5_BadSum : PySem.W.kitOne K (.ref t.c_BadSum) (.type "ValueError") = some true
  ex_BadSum : PySem.W.exmOne K (.ref t.c_BadSum) (.ref t.c_TillError) = some true
  ki_BadSum_BadSum : PySem.W.kitOne K (.ref t.c_BadSum) (.ref t.c_BadSum) = some true
  ki_BadSum_BadSystem : PySem.W.kitOne K (.ref t.c_BadSum) (.ref t.c_BadSystem) = some false
  ki_BadSum_BadWay : PySem.W.kitOne K (.ref t.c_BadSum) (.ref t.c_BadWay) = some false
  mc_BadSystem : mg "BadSystem" = some (.ref t.c_BadSystem)
  ei_BadSystem : PySem.W.excIn K t.c_BadSystem bmVE "ValueError.__new__" = true
  x0_BadSystem : PySem.W.findIn K (.ref t.c_BadSystem) "__getattribute__" = some (some (.builtin "BaseException.__getattribute__"))
  x1_BadSystem : PySem.W.findIn K (.ref t.c_BadSystem) "__getattr__" = some none
  x2_BadSystem : PySem.W.findIn K (.ref t.c_BadSystem) "__class__" = some (some (.builtin "object.__class__"))
  x3_BadSystem : PySem.W.mroIn K t.c_BadSystem (.type "object") = some true
  x4_BadSystem : PySem.W.mroIn K t.c_BadSystem (.type "BaseException") = some true
  x5_BadSystem : PySem.W.kitOne K (.ref t.c_BadSystem) (.type "ValueError") = some true
  ex_BadSystem : PySem.W.exmOne K (.ref t.c_BadSystem) (.ref t.c_TillError) = some true
  ki_BadSystem_BadSum : PySem.W.kitOne K (.ref t.c_BadSystem) (.ref t.c_BadSum) = some false
  ki_BadSystem_BadSystem : PySem.W.kitOne K (.ref t.c_BadSystem) (.ref t.c_BadSystem) = some true
  ki_BadSystem_BadWay : PySem.W.kitOne K (.ref t.c_BadSystem) (.ref t.c_BadWay) = some false
  mc_BadWay : mg "BadWay" = some (.ref t.c_BadWay)
  ei_BadWay : PySem.W.excIn K t.c_BadWay bmVE "ValueError.__new__" = true
  x0_BadWay : PySem.W.findIn K (.ref t.c_BadWay) "__getattribute__" = some (some (.builtin "BaseException.__getattribute__"))
  x1_BadWay : PySem.W.findIn K (.ref t.c_BadWay) "__getattr__" = some none
  x2_BadWay : PySem.W.findIn K (.ref t.c_BadWay) "__class__" = some (some (.builtin "object.__class__"))
  x3_BadWay : PySem.W.mroIn K t.c_BadWay (.type "object") = some true
  x4_BadWay : PySem.W.mroIn K t.c_BadWay (.type "BaseException") = some true
  x5_BadWay : PySem.W.kitOne K (.ref t.c_BadWay) (.type "ValueError") = some true
  ex_BadWay : PySem.W.exmOne K (.ref t.c_BadWay) (.ref t.c_TillError) = some true
  ki_BadWay_BadSum : PySem.W.kitOne K (.ref t.c_BadWay) (.ref t.c_BadSum) = some false
  ki_BadWay_BadSystem : PySem.W.kitOne K (.ref t.c_BadWay) (.ref t.c_BadSystem) = some false
  ki_BadWay_BadWay : PySem.W.kitOne K (.ref t.c_BadWay) (.ref t.c_BadWay) = some true
  mc_TillError : mg "TillError" = some (.ref t.c_TillError)
  xs : PySem.W.specialIn K (.builtin "object.__class__") "__get__" = some (some (.builtin "getset_descriptor.__get__"))
  xt : PySem.W.takesIn K (.builtin "object.__class__") = some true
  n_ValueError : mg "ValueError" = none
  n_all : mg "all" = none
  n_bool : mg "bool" = none
  n_int : mg "int" = none
  n_isinstance : mg "isinstance" = none
  n_len : mg "len" = none
  n_list : mg "list" = none
  n_min : mg "min" = none
  n_range : mg "range" = none
  n_set : mg "set" = none
  n_sorted : mg "sorted" = none
  n_sum : mg "sum" = none
  n_tuple : mg "tuple" = none
  n_zip : mg "zip" = none
  c_GREATEST_COIN : ∃ tk, mg "GREATEST_COIN" = some (.int 200 tk)
  c_GREATEST_HANDED : ∃ tk, mg "GREATEST_HANDED" = some (.int 400 tk)
  c_GREATEST_SUM : ∃ tk, mg "GREATEST_SUM" = some (.int 2000 tk)
  c_GREATEST_TIMES : ∃ tk, mg "GREATEST_TIMES" = some (.int 2000 tk)
  c_MOST_COINS : ∃ tk, mg "MOST_COINS" = some (.int 8 tk)
section
variable {P : Program} {w : World} {K : PySem.W.Frag} {mg : Str → Option Value} {base : Heap} {t : Adr}
theorem ec_BadSum (T : Txt K mg t) : ExcCls K t.c_BadSum := ⟨T.x0_BadSum, T.x1_BadSum, T.x2_BadSum, T.xs, T.xt, T.x3_BadSum, T.x4_BadSum⟩
theorem cd_BadSum (T : Txt K mg t) : (PySem.W.clsIn K t.c_BadSum).isSome = true := by obtain ⟨cd, h, _⟩ := Option.bind_eq_some_iff.mp T.x3_BadSum; rw [h]; rfl
theorem ec_BadWay (T : Txt K mg t) : ExcCls K t.c_BadWay := ⟨T.x0_BadWay, T.x1_BadWay, T.x2_BadWay, T.xs, T.xt, T.x3_BadWay, T.x4_BadWay⟩
theorem cd_BadWay (T : Txt K mg t) : (PySem.W.clsIn K t.c_BadWay).isSome = true := by obtain ⟨cd, h, _⟩ := Option.bind_eq_some_iff.mp T.x3_BadWay; rw [h]; rfl
theorem sc__law_cell : FnScope ["_law_script", "_law_k"] ["_law_script", "_law_k"] (defScope s__law_cell) := ⟨rfl, rfl, rfl, by decide +kernel, rfl, by decide +kernel, by decide +kernel⟩
def cell (zs : List Int) (k : Int) : Int := zs.getD k.toNat 0
def sp__law_cell (K : PySem.W.Frag) : Sp := fun vs H Q _ => ∃ (a : Addr) (zs : List Int) (k : Int), vs = [.ref a, .int k] ∧ SqL K H a (zs.map V.int) ∧ 0 ≤ k ∧ Q (.int (cell zs k)) H
theorem ok__law_cell (T : Txt K mg t) : FnOk P w K mg base CX0 1 t.f__law_cell t.d__law_cell ["_law_script", "_law_k"] (sp__law_cell K) := by
  have S := sc__law_cell
  refine T.F__law_cell.ok S (fun vs H Q E h => ?_) (fun cdv A outer s H vs Q E hr h => ?_)
  · obtain ⟨a, zs, k, rfl, _⟩ := h; rfl
  · obtain ⟨a, zs, k, rfl, hS, h0, q⟩ := h
    refine ⟨_, (pss_cons (ps_if (pt_cmpR op_lt (pv 1) (pe_callB call_lenK rfl T.n_len bt_len (pa_cons (pv 0) pa_nil)) (nomark _)) (pss_one (ps_ret (pe_ix ix_list (pv 0) (pv 1) (fun _ _ => rfl)))) pss_nil)
      (pss_one (ps_ret pe_int))), ?_⟩
    simp only [L2.start, List.map_cons, List.map_nil, List.length_cons, List.length_nil, List.cons_append, List.nil_append, List.append_nil, Nat.reduceAdd, Nat.reduceSub, Nat.sub_self, Nat.zero_add, List.replicate, tSeq, tNext, tDrop, tRet, tRetN, tIfS, tAsg, gName, tVar, tC, tOp, tUn, tB, tTest, tCB, tCall, tCons, tNil, tAnd, tOr, tNot, tAndV, tOrV, tNotV, tChain, tBM, rI, rI0, rU, rEq, rNe, rIxL, rIxT, rIsI, rLen, rSum, rMin, rMax, rAll, rAppend, tSl, rSlT, rSlL, tPart, tNoPart, gTup, gCons, gNil, tTrue, compSt, tLst, tTup, Option.getD_some, Option.getD_none, List.getElem?_cons_zero, List.getElem?_cons_succ, List.set_cons_zero, List.set_cons_succ, Option.some.injEq, V.int.injEq, V.bl.injEq, V.ref.injEq, exists_eq_left, exists_eq_left', true_and, and_true, List.cons.injEq, V.ty.injEq, reduceCtorEq, false_and, and_false, exists_false, if_true, if_false, Bool.false_eq_true, Bool.not_true, Bool.not_false, cxOf, Cx.nox, Cx.wish]
    refine ⟨a, _, rfl, .inl hS, _, _, rfl, rfl, ?_⟩
    rw [List.length_map]
    by_cases hlt : k < (zs.length : Int)
    · rw [if_pos (decide_eq_true hlt)]
      exact ⟨a, _, _, _, rfl, rfl, hS, atI_ints h0 hlt, q⟩
    · rw [if_neg (by rw [decide_eq_false hlt]; exact Bool.false_ne_true)]
      have e : cell zs k = 0 := by
        unfold cell
        rw [List.getD_eq_getElem?_getD, List.getElem?_eq_none (by omega)]; rfl
      rw [e] at q; exact q
theorem sc__law_mix : FnScope ["_law_cell_here", "_law_prime", "_law_many"] ["_law_cell_here", "_law_prime", "_law_many"] (defScope s__law_mix) := ⟨rfl, rfl, rfl, by decide +kernel, rfl, by decide +kernel, by decide +kernel⟩
def mix (c p m : Int) : Int := c * 48271 % p % m
def sp__law_mix (K : PySem.W.Frag) : Sp := fun vs H Q _ => ∃ (c p m : Int), vs = [.int c, .int p, .int m] ∧ 0 < p ∧ 0 < m ∧ Q (.int (mix c p m)) H
theorem ok__law_mix (T : Txt K mg t) : FnOk P w K mg base CX0 1 t.f__law_mix t.d__law_mix ["_law_cell_here", "_law_prime", "_law_many"] (sp__law_mix K) := by
  have S := sc__law_mix
  refine T.F__law_mix.ok S (fun vs H Q E h => ?_) (fun cdv A outer s H vs Q E hr h => ?_)
  · obtain ⟨c, p, m, rfl, _⟩ := h; rfl
  · obtain ⟨c, p, m, rfl, h1, h2, q⟩ := h
    refine ⟨_, (pss_one (ps_ret (pe_op op_mod (pe_op op_mod (pe_op op_mul (pv 0) pe_int) (pv 1)) (pv 2)))), ?_⟩
    simp only [L2.start, List.map_cons, List.map_nil, List.length_cons, List.length_nil, List.cons_append, List.nil_append, List.append_nil, Nat.reduceAdd, Nat.reduceSub, Nat.sub_self, Nat.zero_add, List.replicate, tSeq, tNext, tDrop, tRet, tRetN, tIfS, tAsg, gName, tVar, tC, tOp, tUn, tB, tTest, tCB, tCall, tCons, tNil, tAnd, tOr, tNot, tAndV, tOrV, tNotV, tChain, tBM, rI, rI0, rU, rEq, rNe, rIxL, rIxT, rIsI, rLen, rSum, rMin, rMax, rAll, rAppend, tSl, rSlT, rSlL, tPart, tNoPart, gTup, gCons, gNil, tTrue, compSt, tLst, tTup, Option.getD_some, Option.getD_none, List.getElem?_cons_zero, List.getElem?_cons_succ, List.set_cons_zero, List.set_cons_succ, Option.some.injEq, V.int.injEq, V.bl.injEq, V.ref.injEq, exists_eq_left, exists_eq_left', true_and, and_true, List.cons.injEq, V.ty.injEq, reduceCtorEq, false_and, and_false, exists_false, if_true, if_false, Bool.false_eq_true, Bool.not_true, Bool.not_false, cxOf, Cx.nox, Cx.wish]
    exact ⟨_, _, rfl, rfl, .inr ⟨by decide, by decide⟩, _, _, rfl, rfl, h1, _, _, rfl, rfl, h2, q⟩
theorem sc__law_system : FnScope ["_law_script", "_law_at", "_law_cell_here", "_law_most", "_law_found", "_law_k"] ["_law_script", "_law_at"] (defScope s__law_system) := ⟨rfl, rfl, rfl, by decide +kernel, rfl, by decide +kernel, by decide +kernel⟩
theorem mix_nn {c p m : Int} (h : 0 < m) : 0 ≤ mix c p m ∧ mix c p m < m := ⟨Int.emod_nonneg _ (by omega), Int.emod_lt_of_pos _ h⟩
def sp__law_system (K : PySem.W.Frag) : Sp := fun vs H Q _ => ∃ (a : Addr) (zs : List Int) (at_ : Int), vs = [.ref a, .int at_] ∧ SqL K H a (zs.map V.int) ∧ zs.length ≤ 63 ∧ 0 ≤ at_ ∧ ∀ (p : Addr) (ns : List Int) H', Same H H' → TM.IsSys ns → Sy H' p ns → Q (.ref p) H'
def menu3 (i : Int) : Int := ([7, 13, 29] : List Int).getD i.toNat 0
theorem menu3_at {i : Int} (h0 : 0 ≤ i) (h1 : i < 3) : atI [V.int 7, V.int 13, V.int 29] i = some (.int (menu3 i)) := atI_ints (ns := [7, 13, 29]) h0 h1
theorem menu3_pos {i : Int} (h0 : 0 ≤ i) (h1 : i < 3) : 0 < menu3 i ∧ menu3 i ≤ 29 := by
  have : i = 0 ∨ i = 1 ∨ i = 2 := by omega
  rcases this with rfl | rfl | rfl <;> decide
theorem ok__law_system (T : Txt K mg t) : FnOk P w K mg base CX0 2 t.f__law_system t.d__law_system ["_law_script", "_law_at"] (sp__law_system K) := by
  have G__law_cell := ok__law_cell (P := P) (w := w) (base := base) T
  have G__law_mix := ok__law_mix (P := P) (w := w) (base := base) T
  have S := sc__law_system
  refine T.F__law_system.ok S (fun vs H Q E h => ?_) (fun cdv A outer s H vs Q E hr h => ?_)
  · obtain ⟨a, zs, k, rfl, _⟩ := h; rfl
  · obtain ⟨a, zs, at_, rfl, hS, hz, h0, k⟩ := h
    refine ⟨_, (pss_cons (ps_set (i := 2) S.nd rfl (Or.inl rfl) (pe_call G__law_cell (hr.mono (by first | decide | omega)) rfl T.m__law_cell T.k__law_cell T.b__law_cell .nil pass0 (pa_cons (pv 0) (pa_cons (pv 1) pa_nil))))
      (pss_cons (ps_set (i := 3) S.nd rfl (Or.inl rfl) (pe_ix ix_list (pe_lst (pa_cons pe_int (pa_cons pe_int (pa_cons pe_int pa_nil)))) (pe_call G__law_mix (hr.mono (by first | decide | omega)) rfl T.m__law_mix T.k__law_mix T.b__law_mix .nil pass0 (pa_cons (pv 2) (pa_cons pe_int (pa_cons pe_int pa_nil)))) (fun _ _ => rfl)))
      (pss_cons (ps_if (pt_cmpR op_gt (pe_callB call_lenK rfl T.n_len bt_len (pa_cons (pv 0) pa_nil)) pe_int (nomark _)) (pss_one (ps_set (i := 3) S.nd rfl (Or.inl rfl) pe_int)) pss_nil)
      (pss_cons (ps_set (i := 4) S.nd rfl (Or.inl rfl) (pe_lst (pa_cons pe_int pa_nil)))
      (pss_cons (ps_for PassesOwn.never rfl (pi_range1 rfl T.n_range (pa_cons (pe_call G__law_mix (hr.mono (by first | decide | omega)) rfl T.m__law_mix T.k__law_mix T.b__law_mix .nil pass0 (pa_cons (pv 2) (pa_cons pe_int (pa_cons pe_int pa_nil)))) pa_nil)) (pg_name (i := 5) S.nd rfl (Or.inl rfl))
        (pss_one (ps_expr (pe_bm PySem.F.plainAttrs_list PySem.F.slot_list_append PySem.F.type_list_append mt_append (pv 4) (pa_cons (pe_op op_add pe_int (pe_call G__law_mix (hr.mono (by first | decide | omega)) rfl T.m__law_mix T.k__law_mix T.b__law_mix .nil pass0 (pa_cons (pe_op op_add (pe_call G__law_cell (hr.mono (by first | decide | omega)) rfl T.m__law_cell T.k__law_cell T.b__law_cell .nil pass0 (pa_cons (pv 0) (pa_cons (pe_op op_add (pe_op op_add (pv 1) pe_int) (pv 5)) pa_nil))) (pe_op op_mul (pe_op op_mul pe_int (pv 5)) (pv 5))) (pa_cons pe_int (pa_cons (pv 3) pa_nil))))) pa_nil)))))
      (pss_cons (ps_if (pt_cmpR op_eq (pe_call G__law_mix (hr.mono (by first | decide | omega)) rfl T.m__law_mix T.k__law_mix T.b__law_mix .nil pass0 (pa_cons (pv 2) (pa_cons pe_int (pa_cons pe_int pa_nil)))) pe_int (nomark _)) (pss_cons (ps_set (i := 4) S.nd rfl (Or.inl rfl) (pe_lst (pa_cons pe_int pa_nil)))
      (pss_one (ps_for PassesOwn.never rfl (pi_range1 rfl T.n_range (pa_cons (pe_op op_add pe_int (pe_call G__law_mix (hr.mono (by first | decide | omega)) rfl T.m__law_mix T.k__law_mix T.b__law_mix .nil pass0 (pa_cons (pv 2) (pa_cons pe_int (pa_cons pe_int pa_nil))))) pa_nil)) (pg_name (i := 5) S.nd rfl (Or.inl rfl))
        (pss_one (ps_expr (pe_bm PySem.F.plainAttrs_list PySem.F.slot_list_append PySem.F.type_list_append mt_append (pv 4) (pa_cons (pe_op op_sub (pe_op op_add (pe_op op_mul (pe_ix ix_list (pv 4) (pe_un un_neg pe_int) (fun _ _ => rfl)) pe_int) (pe_call G__law_mix (hr.mono (by first | decide | omega)) rfl T.m__law_mix T.k__law_mix T.b__law_mix .nil pass0 (pa_cons (pe_call G__law_cell (hr.mono (by first | decide | omega)) rfl T.m__law_cell T.k__law_cell T.b__law_cell .nil pass0 (pa_cons (pv 0) (pa_cons (pe_op op_add (pe_op op_add (pv 1) pe_int) (pv 5)) pa_nil))) (pa_cons pe_int (pa_cons pe_int pa_nil))))) (pe_callTy call_intK rfl T.n_int bt_int (pa_cons (pe_cmpR op_gt (pv 5) pe_int (nomark _)) pa_nil))) pa_nil))))))) pss_nil)
      (pss_one (ps_ret (pe_callTy call_tupleK rfl T.n_tuple bt_tuple (pa_cons (pe_callB (call_sortedSet rfl) rfl T.n_sorted bt_sorted (pa_cons (pe_callTy (call_set rfl) rfl T.n_set bt_set (pa_cons (pv 4) pa_nil)) pa_nil)) pa_nil)))))))))), ?_⟩
    have h3 := mix_nn (c := cell zs at_) (p := 9949) (m := 3) (by decide)
    have hm := menu3_pos h3.1 h3.2
    refine ⟨_, rfl, _, rfl, a, zs, at_, rfl, hS, h0, ?_⟩
    refine ⟨Nat.le_of_lt (small1000 (by decide)), fun p1 hp1 => ?_⟩
    have s1 : Same H (upd H p1 (.lst [V.int 7, V.int 13, V.int 29])) := Same.upd hp1
    refine ⟨_, rfl, cell zs at_, 9949, 3, rfl, by decide, by decide, p1, _, _, _, rfl, rfl, SqL.of upd_same, menu3_at h3.1 h3.2, ?_⟩
    generalize hM : menu3 (mix (cell zs at_) 9949 3) = M at hm
    refine ⟨_, rfl, a, _, rfl, .inl (s1.seq hS), _, _, rfl, rfl, _, rfl, ?_⟩
    refine iteN (by rw [List.length_map, decide_eq_false (by omega)]; exact Bool.false_ne_true) ?_
    refine ⟨Nat.le_of_lt (small1000 (by decide)), fun q hq => ?_⟩
    have h6 := mix_nn (c := cell zs at_) (p := 9973) (m := 6) (by decide)
    refine ⟨_, rfl, cell zs at_, 9973, 6, rfl, by decide, by decide, _, rfl, by omega, by omega, for_range (lo := 0)
      (fun i σ H2 => ∃ (v : Option V) (fs : List Int), σ = [some (.ref a), some (.int at_), some (.int (cell zs at_)), some (.int M), some (.ref q), v] ∧ Same (upd H p1 (.lst [V.int 7, V.int 13, V.int 29])) H2 ∧ H2 q = some (.lst (fs.map V.int)) ∧ fs.length = i + 1 ∧ (1 : Int) ∈ fs ∧ ∀ z ∈ fs, 1 ≤ z ∧ z ≤ 200)
      ⟨none, [1], rfl, Same.upd hq, upd_same, rfl, by decide, by decide⟩ ?_ ?_⟩
    · rintro i σ H2 hi ⟨v, fs, rfl, s2, h2, hfl, hf1, hfp⟩
      have hc := (s1.trans s2).seq hS
      refine ⟨_, rfl, .inl ⟨rfl, _, SqL.of h2⟩, ?_⟩
      refine ⟨_, rfl, _, rfl, _, _, rfl, rfl, _, rfl, _, _, rfl, rfl, a, zs, _, rfl, hc, by omega, ?_⟩
      refine ⟨_, rfl, _, _, rfl, rfl, .inl ⟨by decide, by decide⟩, _, rfl, _, _, rfl, rfl, .inr ⟨by omega, by omega⟩, _, _, rfl, rfl, _, rfl, _, 9967, M, rfl, by decide, hm.1, ?_⟩
      have hmm := mix_nn (c := cell zs (at_ + 1 + (0 + (i : Int))) + 17 * (0 + (i : Int)) * (0 + (i : Int))) (p := 9967) (m := M) hm.1
      refine ⟨_, _, rfl, rfl, q, _, _, rfl, rfl, h2, small1000 (by rw [List.length_map]; omega), ?_⟩
      refine ⟨_, fs ++ [2 + mix (cell zs (at_ + 1 + (0 + (i : Int))) + 17 * (0 + (i : Int)) * (0 + (i : Int))) 9967 M], rfl, fun b o e => ?_, ?_, ?_, ?_, ?_⟩
      · rw [upd_ne (ne_of_none e hq)]; exact s2 _ _ e
      · rw [upd_same, List.map_append]; rfl
      · rw [List.length_append, hfl]; rfl
      · exact List.mem_append_left _ hf1
      · intro z hz
        rcases List.mem_append.mp hz with z1 | z1
        · exact hfp z z1
        · rw [List.mem_singleton.mp z1]; omega
    · rintro σ H2 ⟨v, fs, rfl, s2, h2, hfl, hf1, hfp⟩
      refine ⟨_, rfl, cell zs at_, 9941, 5, rfl, by decide, by decide, rfl, _, rfl, ?_⟩
      refine ite2 (fun _ => ?_) (fun _ => ?_)
      · refine ⟨Nat.le_of_lt (small1000 (by decide)), fun r hr => ?_⟩
        have h4 := mix_nn (c := cell zs at_) (p := 9973) (m := 4) (by decide)
        refine ⟨_, rfl, cell zs at_, 9973, 4, rfl, by decide, by decide, _, _, rfl, rfl, _, rfl, by omega, by omega, for_range (lo := 0)
          (fun i σ H3 => ∃ (v : Option V) (fs : List Int), σ = [some (.ref a), some (.int at_), some (.int (cell zs at_)), some (.int M), some (.ref r), v] ∧ Same H2 H3 ∧ H3 r = some (.lst (fs.map V.int)) ∧ fs.length = i + 1 ∧ (1 : Int) ∈ fs ∧ ∀ z ∈ fs, 1 ≤ z ∧ z ≤ 3 * 2 ^ i - 2)
          ⟨v, [1], rfl, Same.upd hr, upd_same, rfl, by decide, by decide⟩ ?_ ?_⟩
        · rintro i σ H3 hi ⟨v3, gs, rfl, s3, h3', hgl, hg1, hgp⟩
          have hc := ((s1.trans s2).trans s3).seq hS
          obtain ⟨z, hzm, hzat⟩ := atI_neg1 (fs := gs) (fun e => by rw [e] at hgl; simp at hgl)
          have hzp := hgp z hzm
          have hi4 : i < 4 := by omega
          have hpow : (2 : Int) ^ (i + 1) = 2 * 2 ^ i := by rw [Int.pow_succ]; omega
          have hpb : (2 : Int) ^ i ≤ 8 := by
            have : i = 0 ∨ i = 1 ∨ i = 2 ∨ i = 3 := by omega
            rcases this with rfl | rfl | rfl | rfl <;> decide
          refine ⟨_, rfl, .inl ⟨rfl, _, SqL.of h3'⟩, ?_⟩
          refine ⟨_, rfl, _, rfl, r, _, _, _, rfl, rfl, SqL.of h3', hzat, _, _, rfl, rfl, .inl ⟨by omega, by omega⟩, ?_⟩
          refine ⟨_, rfl, _, rfl, _, _, rfl, rfl, _, rfl, _, _, rfl, rfl, a, zs, _, rfl, hc, by omega, _, 9931, 3, rfl, by decide, by decide, ?_⟩
          have hmm := mix_nn (c := cell zs (at_ + 1 + (0 + (i : Int)))) (p := 9931) (m := 3) (by decide)
          refine ⟨_, _, rfl, rfl, _, rfl, _, _, rfl, rfl, .inr ⟨_, rfl, _, _, rfl, rfl, ?_⟩⟩
          have hb01 : (0 : Int) ≤ (if decide ((0 : Int) < 0 + (i : Int)) = true then 1 else 0) ∧ (if decide ((0 : Int) < 0 + (i : Int)) = true then 1 else 0) ≤ (1 : Int) := by
            split <;> decide
          refine ⟨r, _, _, rfl, rfl, h3', small1000 (by rw [List.length_map]; omega), ?_⟩
          refine ⟨_, gs ++ [z * 2 + mix (cell zs (at_ + 1 + (0 + (i : Int)))) 9931 3 - (if decide ((0 : Int) < 0 + (i : Int)) = true then 1 else 0)], rfl, fun b o e => ?_, ?_, ?_, ?_, ?_⟩
          · rw [upd_ne (ne_of_none e hr)]; exact s3 _ _ e
          · rw [upd_same, List.map_append]; rfl
          · rw [List.length_append, hgl]; rfl
          · exact List.mem_append_left _ hg1
          · intro y hy
            rw [hpow]
            rcases List.mem_append.mp hy with z1 | z1
            · have := hgp y z1; omega
            · rw [List.mem_singleton.mp z1]; omega
        · rintro σ H3 ⟨v3, gs, rfl, s3, h3', hgl, hg1, hgp⟩
          refine sys_end (i := 4) rfl h3' (by omega) hg1 (fun z hz => ?_) fun l ns H4 s4 hY hl4 => k l ns H4 (((s1.trans s2).trans s3).trans s4) hY hl4
          have := hgp z hz
          have hpb : (2 : Int) ^ (1 + mix (cell zs at_) 9973 4).toNat ≤ 16 := by
            have : (1 + mix (cell zs at_) 9973 4).toNat = 0 ∨ (1 + mix (cell zs at_) 9973 4).toNat = 1 ∨ (1 + mix (cell zs at_) 9973 4).toNat = 2 ∨ (1 + mix (cell zs at_) 9973 4).toNat = 3 ∨ (1 + mix (cell zs at_) 9973 4).toNat = 4 := by omega
            rcases this with e | e | e | e | e <;> (rw [e]; decide)
          omega
      · exact sys_end (i := 4) rfl h2 (by omega) hf1 hfp fun l ns H4 s4 hY hl4 => k l ns H4 ((s1.trans s2).trans s4) hY hl4
theorem sc_is_number : FnScope ["thing", "least", "most"] ["thing", "least", "most"] (defScope s_is_number) := ⟨rfl, rfl, rfl, by decide +kernel, rfl, by decide +kernel, by decide +kernel⟩
def sp_is_number (K : PySem.W.Frag) : Sp := fun vs H Q _ => ∃ (v : V) (a b : Int), vs = [v, .int a, .int b] ∧ Kn H v ∧ Q (.bl (numB v a b)) H
theorem ok_is_number (T : Txt K mg t) : FnOk P w K mg base CX0 1 t.f_is_number t.d_is_number ["thing", "least", "most"] (sp_is_number K) := by
  have S := sc_is_number
  refine T.F_is_number.ok S (fun vs H Q E h => ?_) (fun cdv A outer s H vs Q E hr h => ?_)
  · obtain ⟨v, a, b, rfl, _⟩ := h; rfl
  · obtain ⟨v, a, b, rfl, hv, k⟩ := h
    refine ⟨_, (pss_cons (ps_if (PW.pt (pw_or (pt_val (pe_callB call_isinst rfl T.n_isinstance bt_isinstance (pa_cons (pv 0) (pa_cons (pe_tyn rfl T.n_bool bt_bool) pa_nil)))) (pw_or1 (pt_not (pt_val (pe_callB call_isinst rfl T.n_isinstance bt_isinstance (pa_cons (pv 0) (pa_cons (pe_tyn rfl T.n_int bt_int) pa_nil)))))))) (pss_one (ps_ret pe_bl)) pss_nil)
      (pss_one (ps_ret (pe_chain op_le op_le (pv 1) (pv 0) (pv 2))))), ?_⟩
    cases hv with
    | non => exact ⟨_, rfl, _, _, false, _, rfl, .non, rfl, _, rfl, iteN Bool.false_ne_true ⟨_, rfl, _, _, false, _, rfl, .non, rfl, _, rfl, iteP rfl k⟩⟩
    | bl x => exact ⟨_, rfl, _, _, true, _, rfl, .bl x, rfl, _, rfl, iteP rfl (iteP rfl k)⟩
    | str x => exact ⟨_, rfl, _, _, false, _, rfl, .str x, rfl, _, rfl, iteN Bool.false_ne_true ⟨_, rfl, _, _, false, _, rfl, .str x, rfl, _, rfl, iteP rfl k⟩⟩
    | lst e => exact ⟨_, rfl, _, _, false, _, rfl, .lst e, rfl, _, rfl, iteN Bool.false_ne_true ⟨_, rfl, _, _, false, _, rfl, .lst e, rfl, _, rfl, iteP rfl k⟩⟩
    | tup e => exact ⟨_, rfl, _, _, false, _, rfl, .tup e, rfl, _, rfl, iteN Bool.false_ne_true ⟨_, rfl, _, _, false, _, rfl, .tup e, rfl, _, rfl, iteP rfl k⟩⟩
    | int i =>
      refine ⟨_, rfl, _, _, false, _, rfl, .int i, rfl, _, rfl, iteN Bool.false_ne_true ⟨_, rfl, _, _, true, _, rfl, .int i, rfl, _, rfl, iteN (by exact Bool.false_ne_true) ?_⟩⟩
      refine ⟨_, rfl, _, rfl, _, _, rfl, rfl, _, rfl, ?_⟩
      by_cases h1 : a ≤ i
      · refine iteP (decide_eq_true h1) ⟨_, rfl, _, _, rfl, rfl, ?_⟩
        have e : numB (.int i) a b = decide (i ≤ b) := by show (decide (a ≤ i) && decide (i ≤ b)) = _; rw [decide_eq_true h1]; rfl
        rw [e] at k; exact k
      · refine iteN (fun z => h1 (of_decide_eq_true z)) ?_
        have e : numB (.int i) a b = false := by show (decide (a ≤ i) && decide (i ≤ b)) = _; rw [decide_eq_false h1]; rfl
        rw [e] at k
        exact k
theorem sc_is_rising : FnScope ["coins"] ["coins"] (defScope s_is_rising) := ⟨rfl, rfl, rfl, by decide +kernel, rfl, by decide +kernel, by decide +kernel⟩
def sp_is_rising (K : PySem.W.Frag) : Sp := fun vs H Q _ => ∃ (a : Addr) (ns : List Int), vs = [.ref a] ∧ SqT K H a (ns.map V.int) ∧ ns ≠ [] ∧ ns.length ≤ 1000 ∧ ∀ H', Same H H' → Q (.bl (risesL ns)) H'
theorem cut1 (ns : List Int) : cutV (ns.map V.int) (some 1) none = (ns.drop 1).map V.int := by
  unfold cutV
  rw [show HT.sIx (ns.map V.int).length 0 (some 1) = min 1 (ns.map V.int).length from HT.sIx_nat _ _ 1, HT.sIx_none, List.map_drop]
  cases ns with
  | nil => rfl
  | cons a r =>
    simp only [List.map_cons, List.length_cons, List.length_map]
    rw [Nat.min_eq_left (by omega), List.take_of_length_le (by simp)]
theorem ok_is_rising (T : Txt K mg t) : FnOk P w K mg base CX0 1 t.f_is_rising t.d_is_rising ["coins"] (sp_is_rising K) := by
  have S := sc_is_rising
  refine T.F_is_rising.ok S (fun vs H Q E h => ?_) (fun cdv A outer s H vs Q E hr h => ?_)
  · obtain ⟨a, ns, rfl, _⟩ := h; rfl
  · obtain ⟨a, ns, rfl, hS, hne, hl, k⟩ := h
    refine ⟨_, (pss_one (ps_ret (pe_callB (call_all rfl) rfl T.n_all bt_all (pa_cons (pe_comp ["coin", "following"] [] [] rfl trivial ⟨rfl, by decide +kernel, by decide +kernel, by decide +kernel⟩ (pi_zip rfl T.n_zip (pa_cons (pv 0) (pa_cons (pe_slice sl_tup (pv 0) (po_some pe_int) po_none) pa_nil))) (gk_tup (gk_two (by decide) (by decide)))
          (fun C s₀ H₀ fp pn => (pg_tup (n := 2) rfl (pgs_cons (pg_name (i := 0) (show List.Nodup (["coin", "following"] : List Str) by decide +kernel) rfl (Or.inl rfl)) (pgs_cons (pg_name (i := 1) (show List.Nodup (["coin", "following"] : List Str) by decide +kernel) rfl (Or.inl rfl)) pgs_nil)))) (fun C s₀ H₀ fp pn => pf_nil) (fun C s₀ H₀ fp pn => (pe_cmpR op_lt (pv 0) (pv 1) (nomark _)))) pa_nil)))), ?_⟩
    simp only [L2.start, List.map_cons, List.map_nil, List.length_cons, List.length_nil, List.cons_append, List.nil_append, List.append_nil, Nat.reduceAdd, Nat.reduceSub, Nat.sub_self, Nat.zero_add, List.replicate, tSeq, tNext, tDrop, tRet, tRetN, tIfS, tAsg, gName, tVar, tC, tOp, tUn, tB, tTest, tCB, tCall, tCons, tNil, tAnd, tOr, tNot, tAndV, tOrV, tNotV, tChain, tBM, rI, rI0, rU, rEq, rNe, rIxL, rIxT, rIsI, rLen, rSum, rMin, rMax, rAll, rAppend, tSl, rSlT, rSlL, tPart, tNoPart, gTup, gCons, gNil, tTrue, compSt, tLst, tTup, Option.getD_some, Option.getD_none, List.getElem?_cons_zero, List.getElem?_cons_succ, List.set_cons_zero, List.set_cons_succ, Option.some.injEq, V.int.injEq, V.bl.injEq, V.ref.injEq, exists_eq_left, exists_eq_left', true_and, and_true, List.cons.injEq, V.ty.injEq, reduceCtorEq, false_and, and_false, exists_false, if_true, if_false, Bool.false_eq_true, Bool.not_true, Bool.not_false, cxOf, Cx.nox, Cx.wish]
    have hpos : 0 < ns.length := List.length_pos_iff.mpr hne
    have hwhole : ¬ (HT.sIx (ns.map V.int).length 0 (some 1) = 0 ∧ HT.sIx (ns.map V.int).length (ns.map V.int).length none = (ns.map V.int).length) := by
      rw [show HT.sIx (ns.map V.int).length 0 (some 1) = min 1 (ns.map V.int).length from HT.sIx_nat _ _ 1, List.length_map]
      omega
    refine ⟨_, rfl, _, rfl, _, rfl, a, _, rfl, hS, hwhole, fun p hp => ?_⟩
    rw [cut1]
    have s1 : Same H (upd H p (.tup ((ns.drop 1).map V.int))) := Same.upd hp
    refine ⟨a, p, _, _, rfl, s1.seqT hS, SqT.of upd_same, comp_zip (xs := ns.map V.int) (zs := (ns.drop 1).map V.int)
      (fun i ys H2 => Same (upd H p (.tup ((ns.drop 1).map V.int))) H2 ∧ ys = (((ns.zip (ns.drop 1)).take i).map fun q => V.bl (decide (q.1 < q.2))))
      ⟨Same.refl _, rfl⟩ (fun i ys H2 _ ⟨s2, _⟩ => ⟨s2.seqT (s1.seqT hS), s2.seqT (SqT.of upd_same)⟩) ?_ ?_⟩
    · rintro i x z q ys H2 hx hz hq ⟨s2, rfl⟩
      rw [List.getElem?_map] at hx hz
      obtain ⟨x', hx', rfl⟩ := Option.map_eq_some_iff.mp hx
      obtain ⟨z', hz', rfl⟩ := Option.map_eq_some_iff.mp hz
      have hz2 := zip_get hx' hz'
      have hi : i < min (ns.map V.int).length ((ns.drop 1).map V.int).length := by
        have h1 := (List.getElem?_eq_some_iff.mp hx').1
        have h2 := (List.getElem?_eq_some_iff.mp hz').1
        rw [List.length_map, List.length_map]
        omega
      refine ⟨q, _, rfl, SqT.of upd_same, rfl, _, _, rfl, _, _, rfl, rfl, ?_⟩
      simp only [L2.start, List.map_cons, List.map_nil, List.length_cons, List.length_nil, List.cons_append, List.nil_append, List.append_nil, Nat.reduceAdd, Nat.reduceSub, Nat.sub_self, Nat.zero_add, List.replicate, tSeq, tNext, tDrop, tRet, tRetN, tIfS, tAsg, gName, tVar, tC, tOp, tUn, tB, tTest, tCB, tCall, tCons, tNil, tAnd, tOr, tNot, tAndV, tOrV, tNotV, tChain, tBM, rI, rI0, rU, rEq, rNe, rIxL, rIxT, rIsI, rLen, rSum, rMin, rMax, rAll, rAppend, tSl, rSlT, rSlL, tPart, tNoPart, gTup, gCons, gNil, tTrue, compSt, tLst, tTup, Option.getD_some, Option.getD_none, List.getElem?_cons_zero, List.getElem?_cons_succ, List.set_cons_zero, List.set_cons_succ, Option.some.injEq, V.int.injEq, V.bl.injEq, V.ref.injEq, exists_eq_left, exists_eq_left', true_and, and_true, List.cons.injEq, V.ty.injEq, reduceCtorEq, false_and, and_false, exists_false, if_true, if_false, Bool.false_eq_true, Bool.not_true, Bool.not_false, cxOf, Cx.nox, Cx.wish]
      refine ⟨_, _, rfl, rfl, small1000 ?_, CN.mk hi ⟨s2.trans (Same.upd hq), ?_⟩⟩
      · rw [List.length_map, List.length_take, List.length_zip]; omega
      · rw [take_map_succ _ hz2]
    · rintro ys H2 ⟨s2, rfl⟩ q hq
      refine ⟨q, (ns.zip (ns.drop 1)).map fun z => decide (z.1 < z.2), rfl, .inl (SqL.of (upd_same.trans ?_)), ?_⟩
      · congr 2
        rw [List.map_map, List.length_map, List.length_map, ← List.length_zip, List.take_length]
        rfl
      · have e : ((ns.zip (ns.drop 1)).map fun z => decide (z.1 < z.2)).all id = risesL ns := by
          rw [List.all_map]; rfl
        rw [e]
        exact k _ (s1.trans (s2.trans (Same.upd hq)))
theorem sc_is_system : FnScope ["thing"] ["thing"] (defScope s_is_system) := ⟨rfl, rfl, rfl, by decide +kernel, rfl, by decide +kernel, by decide +kernel⟩
def sp_is_system (K : PySem.W.Frag) : Sp := fun vs H Q _ => ∃ v, vs = [v] ∧ ((∃ a xs, v = .ref a ∧ H a = some (.tup xs) ∧ (∀ x ∈ xs, Kn H x) ∧ xs.length ≤ 900 ∧ ∀ H', Same H H' → Q (.bl (isSysV xs)) H') ∨ ((v = .non ∨ (∃ b, v = .bl b) ∨ (∃ i, v = .int i) ∨ (∃ x, v = .str x) ∨ ∃ a xs, v = .ref a ∧ H a = some (.lst xs)) ∧ Q (.bl false) H))
theorem ok_is_system (T : Txt K mg t) : FnOk P w K mg base CX0 2 t.f_is_system t.d_is_system ["thing"] (sp_is_system K) := by
  have G_is_number := ok_is_number (P := P) (w := w) (base := base) T
  have G_is_rising := ok_is_rising (P := P) (w := w) (base := base) T
  have S := sc_is_system
  refine T.F_is_system.ok S (fun vs H Q E h => ?_) (fun cdv A outer s H vs Q E hr h => ?_)
  · obtain ⟨v, rfl, _⟩ := h; rfl
  · obtain ⟨v, rfl, h⟩ := h
    refine ⟨_, (pss_cons (ps_if (PW.pt (pw_or (pt_not (pt_val (pe_callB call_isinst rfl T.n_isinstance bt_isinstance (pa_cons (pv 0) (pa_cons (pe_tyn rfl T.n_tuple bt_tuple) pa_nil))))) (pw_or1 (pt_not (pt_chain op_le op_le pe_int (pe_callB call_lenK rfl T.n_len bt_len (pa_cons (pv 0) pa_nil)) (pe_const rfl T.c_MOST_COINS)))))) (pss_one (ps_ret pe_bl)) pss_nil)
      (pss_cons (ps_if (pt_not (pt_val (pe_callB (call_all rfl) rfl T.n_all bt_all (pa_cons (pe_comp ["coin"] [] [] rfl trivial ⟨rfl, by decide +kernel, by decide +kernel, by decide +kernel⟩ (pi_tup (pv 0)) (gk_name (by decide))
          (fun C s₀ H₀ fp pn => (pg_name (i := 0) (show List.Nodup (["coin"] : List Str) by decide +kernel) rfl (Or.inl rfl))) (fun C s₀ H₀ fp pn => pf_nil) (fun C s₀ H₀ fp pn => (pe_call G_is_number (hr.mono (by first | decide | omega)) rfl T.m_is_number T.k_is_number T.b_is_number .nil pass0 (pa_cons (pv 0) (pa_cons pe_int (pa_cons (pe_const rfl T.c_GREATEST_COIN) pa_nil)))))) pa_nil)))) (pss_one (ps_ret pe_bl)) pss_nil)
      (pss_one (ps_ret (pe_and (pe_cmpR op_eq (pe_ix ix_tup (pv 0) pe_int (fun _ _ => rfl)) pe_int (nomark _)) (pe_one (pe_call G_is_rising (hr.mono (by first | decide | omega)) rfl T.m_is_rising T.k_is_rising T.b_is_rising .nil pass0 (pa_cons (pv 0) pa_nil)))))))), ?_⟩
    rcases h with ⟨a, xs, rfl, hS, hk, hl, k⟩ | ⟨h, k⟩
    · refine ⟨_, rfl, _, _, true, _, rfl, .tup hS, rfl, _, rfl, iteN (by exact Bool.false_ne_true) ?_⟩
      refine ⟨_, rfl, a, _, rfl, .inr (SqT.of hS), _, _, rfl, rfl, _, rfl, ?_⟩
      by_cases h1 : (1 : Int) ≤ (xs.length : Int)
      · refine iteP (decide_eq_true h1) ⟨_, _, rfl, rfl, _, rfl, ?_⟩
        by_cases h8 : (xs.length : Int) ≤ 8
        · refine iteN (by rw [decide_eq_true h8]; exact Bool.false_ne_true) ?_
          refine ⟨_, rfl, a, rfl, ⟨_, SqT.of hS⟩, comp_tup (xs := xs) (fun i ys H2 => Same H H2 ∧ ys = (xs.take i).map fun v => V.bl (numB v 1 200)) ⟨Same.refl _, rfl⟩ (fun i ys H2 _ ⟨s2, _⟩ => SqT.of (s2 _ _ hS)) ?_ ?_⟩
          · rintro i x ys H2 hi hx ⟨s2, rfl⟩
            refine ⟨_, rfl, x, 1, 200, rfl, (hk x (List.mem_of_getElem? hx)).same s2, small1000 ?_, CN.mk hi ⟨s2, ?_⟩⟩
            · rw [List.length_map, List.length_take]; omega
            · rw [List.take_add_one, hx, List.map_append]; rfl
          · rintro ys H2 ⟨s2, rfl⟩ q hq
            rw [List.take_length]
            refine ⟨q, xs.map fun v => numB v 1 200, rfl, .inl (SqL.of (upd_same.trans (by rw [List.map_map]; rfl))), _, rfl, ?_⟩
            have hall : (xs.map fun v => numB v 1 200).all id = xs.all (fun v => numB v 1 200) := by rw [List.all_map]; rfl
            rw [hall]
            have s3 : Same H (upd H2 q (.lst (xs.map fun v => V.bl (numB v 1 200)))) := s2.trans (Same.upd hq)
            cases hnum : xs.all (fun v => numB v 1 200) with
            | false =>
              refine iteP (by rfl) ?_
              have e : isSysV xs = false := by unfold isSysV; rw [hnum]; simp
              have := k _ s3
              rw [e] at this; exact this
            | true =>
              refine iteN (by exact Bool.false_ne_true) ?_
              have hx := ints_of_num hnum
              have hS3 : upd H2 q (.lst (xs.map fun v => V.bl (numB v 1 200))) a = some (.tup ((xs.map intV).map V.int)) := by rw [← hx]; exact s3 _ _ hS
              have hlen : (xs.map intV).length = xs.length := List.length_map ..
              have e : isSysV xs = (decide ((xs.map intV).getD 0 0 = 1) && risesL (xs.map intV)) := by
                unfold isSysV; rw [hnum, decide_eq_true (show 1 ≤ xs.length by omega), decide_eq_true (show xs.length ≤ 8 by omega)]; rfl
              generalize xs.map intV = ns at hS3 hlen e
              refine ⟨_, rfl, a, _, _, _, rfl, rfl, SqT.of hS3, atI_ints (i := 0) (by decide) (by omega), rfl, _, rfl, ?_⟩
              show if decide (V.int (ns.getD 0 0) = V.int 1) = true then _ else _
              by_cases h0 : ns.getD 0 0 = 1
              · refine iteP (by rw [h0]; rfl) ⟨_, rfl, a, ns, rfl, SqT.of hS3, fun z => ?_, by omega, fun H4 s4 => ?_⟩
                · rw [z] at hlen; simp at hlen; omega
                · have := k _ (s3.trans s4)
                  rw [e, decide_eq_true h0] at this; exact this
              · refine iteN (fun z => h0 (V.int.inj (of_decide_eq_true z))) ?_
                have := k _ s3
                rw [e, decide_eq_false h0] at this
                exact this
        · refine iteP (by rw [decide_eq_false h8]; rfl) ?_
          have e : isSysV xs = false := by unfold isSysV; rw [decide_eq_false (show ¬ xs.length ≤ 8 by omega)]; simp
          have := k _ (Same.refl _)
          rw [e] at this; exact this
      · refine iteN (fun z => h1 (of_decide_eq_true z)) ⟨_, rfl, iteP (by rfl) ?_⟩
        have e : isSysV xs = false := by unfold isSysV; rw [decide_eq_false (show ¬ 1 ≤ xs.length by omega)]; simp
        have := k _ (Same.refl _)
        rw [e] at this; exact this
    · rcases h with rfl | ⟨b, rfl⟩ | ⟨i, rfl⟩ | ⟨x, rfl⟩ | ⟨a, xs, rfl, e⟩
      · exact ⟨_, rfl, _, _, false, _, rfl, .non, rfl, _, rfl, iteP rfl (iteP rfl k)⟩
      · exact ⟨_, rfl, _, _, false, _, rfl, .bl b, rfl, _, rfl, iteP rfl (iteP rfl k)⟩
      · exact ⟨_, rfl, _, _, false, _, rfl, .int i, rfl, _, rfl, iteP rfl (iteP rfl k)⟩
      · exact ⟨_, rfl, _, _, false, _, rfl, .str x, rfl, _, rfl, iteP rfl (iteP rfl k)⟩
      · exact ⟨_, rfl, _, _, false, _, rfl, .lst e, rfl, _, rfl, iteP rfl (iteP rfl k)⟩
theorem sc_checked : FnScope ["system"] ["system"] (defScope s_checked) := ⟨rfl, rfl, rfl, by decide +kernel, rfl, by decide +kernel, by decide +kernel⟩
def sp_checked (K : PySem.W.Frag) (t : Adr) : Sp := fun vs H Q E => ∃ v, vs = [v] ∧ ((∃ a ns, v = .ref a ∧ Sy H a ns ∧ TM.IsSys ns ∧ ∀ H', Same H H' → Q v H') ∨ (BadV H v ∧ ∀ H', Same H H' → E (.ref t.c_BadSystem) none H'))
theorem ok_checked (T : Txt K mg t) : FnOk P w K mg base (CX1 P w base) 3 t.f_checked t.d_checked ["system"] (sp_checked K t) := by
  have G_is_system := ok_is_system (P := P) (w := w) (base := base) T
  have S := sc_checked
  refine T.F_checked.okX S (fun vs H Q E h => ?_) (fun cdv A outer s H vs Q E hr h => ?_)
  · obtain ⟨v, rfl, _⟩ := h; rfl
  · obtain ⟨v, rfl, h⟩ := h
    refine ⟨_, (pss_cons (ps_if (pt_not (pt_val (pe_call G_is_system (hr.mono (by first | decide | omega)) rfl T.m_is_system T.k_is_system T.b_is_system .nil pass0 (pa_cons (pv 0) pa_nil)))) (pss_one (ps_raise raisesX rfl rfl T.mc_BadSystem T.ei_BadSystem pe_str)) pss_nil)
      (pss_one (PS.nox (ps_ret (pv 0))))), ?_⟩
    rcases h with ⟨a, ns, rfl, hS, hY, k⟩ | ⟨hB, k⟩
    · refine ⟨_, rfl, _, rfl, .inl ⟨a, _, rfl, hS, fun x hx => ?_, by rw [List.length_map]; have := hY.len; omega, fun H2 s2 => ⟨_, rfl, ?_⟩⟩⟩
      · obtain ⟨c, _, rfl⟩ := List.mem_map.mp hx; exact .int c
      · exact iteN (by rw [isSysV_iff.mpr hY]; exact Bool.false_ne_true) ⟨_, rfl, k H2 s2⟩
    · cases hB with
      | non => exact ⟨_, rfl, _, rfl, .inr ⟨.inl rfl, _, rfl, iteP rfl ⟨rfl, k _ (Same.refl _)⟩⟩⟩
      | bl b => exact ⟨_, rfl, _, rfl, .inr ⟨.inr (.inl ⟨b, rfl⟩), _, rfl, iteP rfl ⟨rfl, k _ (Same.refl _)⟩⟩⟩
      | int i => exact ⟨_, rfl, _, rfl, .inr ⟨.inr (.inr (.inl ⟨i, rfl⟩)), _, rfl, iteP rfl ⟨rfl, k _ (Same.refl _)⟩⟩⟩
      | str x => exact ⟨_, rfl, _, rfl, .inr ⟨.inr (.inr (.inr (.inl ⟨x, rfl⟩))), _, rfl, iteP rfl ⟨rfl, k _ (Same.refl _)⟩⟩⟩
      | lst e => exact ⟨_, rfl, _, rfl, .inr ⟨.inr (.inr (.inr (.inr ⟨_, _, rfl, e⟩))), _, rfl, iteP rfl ⟨rfl, k _ (Same.refl _)⟩⟩⟩
      | tup e kn l n => exact ⟨_, rfl, _, rfl, .inl ⟨_, _, rfl, e, kn, l, fun H2 s2 => ⟨_, rfl, iteP (by rw [n]; rfl) ⟨rfl, k H2 s2⟩⟩⟩⟩
theorem sc_refuse_bad_sum : FnScope ["system", "number"] ["system", "number"] (defScope s_refuse_bad_sum) := ⟨rfl, rfl, rfl, by decide +kernel, rfl, by decide +kernel, by decide +kernel⟩
def sp_refuse_bad_sum (K : PySem.W.Frag) (t : Adr) : Sp := fun vs H Q E => ∃ (a : Addr) (ns : List Int) (v : V), vs = [.ref a, v] ∧ Sy H a ns ∧ TM.IsSys ns ∧ Kn H v ∧ ((numB v 0 2000 = false ∧ ∀ H', Same H H' → E (.ref t.c_BadSum) none H') ∨ (numB v 0 2000 = true ∧ ∀ H', Same H H' → Q .non H'))
theorem ok_refuse_bad_sum (T : Txt K mg t) : FnOk P w K mg base (CX1 P w base) 4 t.f_refuse_bad_sum t.d_refuse_bad_sum ["system", "number"] (sp_refuse_bad_sum K t) := by
  have G_is_number := ok_is_number (P := P) (w := w) (base := base) T
  have G_checked := ok_checked (P := P) (w := w) (base := base) T
  have S := sc_refuse_bad_sum
  refine T.F_refuse_bad_sum.okX S (fun vs H Q E h => ?_) (fun cdv A outer s H vs Q E hr h => ?_)
  · obtain ⟨a, ns, v, rfl, _⟩ := h; rfl
  · obtain ⟨a, ns, v, rfl, hS, hY, hv, h⟩ := h
    refine ⟨_, (pss_cons (ps_expr (pe_call G_checked (hr.mono (by first | decide | omega)) rfl T.m_checked T.k_checked T.b_checked .nil passX (pa_cons (pv 0) pa_nil)))
      (pss_one (ps_if (pt_not (pt_val (pe_call G_is_number (hr.mono (by first | decide | omega)) rfl T.m_is_number T.k_is_number T.b_is_number .nil pass0 (pa_cons (pv 1) (pa_cons pe_int (pa_cons (pe_const rfl T.c_GREATEST_SUM) pa_nil)))))) (pss_one (ps_raise raisesX rfl rfl T.mc_BadSum T.ei_BadSum pe_str)) pss_nil))), ?_⟩
    refine ⟨_, rfl, _, rfl, .inl ⟨a, ns, rfl, hS, hY, fun H2 s2 => ?_⟩⟩
    refine ⟨_, rfl, v, 0, 2000, rfl, hv.same s2, _, rfl, ?_⟩
    rcases h with ⟨e, k⟩ | ⟨e, k⟩
    · exact iteP (by rw [e]; rfl) ⟨rfl, k H2 s2⟩
    · exact iteN (by rw [e]; exact Bool.false_ne_true) (k H2 s2)
theorem sc_by_fewest : FnScope ["system", "number", "table", "falling_way", "left", "coin", "taken"] ["system", "number"] (defScope s_by_fewest) := ⟨rfl, rfl, rfl, by decide +kernel, rfl, by decide +kernel, by decide +kernel⟩
def sp_by_fewest (K : PySem.W.Frag) (t : Adr) : Sp := fun vs H Q E => ∃ (a : Addr) (ns : List Int) (v : V), vs = [.ref a, v] ∧ Sy H a ns ∧ TM.IsSys ns ∧ Kn H v ∧ numB v 0 2000 = false ∧ ∀ H', Same H H' → E (.ref t.c_BadSum) none H'
theorem ok_by_fewest (T : Txt K mg t) : FnOk P w K mg base (CX1 P w base) 5 t.f_by_fewest t.d_by_fewest ["system", "number"] (sp_by_fewest K t) := by
  have G_refuse_bad_sum := ok_refuse_bad_sum (P := P) (w := w) (base := base) T
  have S := sc_by_fewest
  refine T.F_by_fewest.okX S (fun vs H Q E h => ?_) (fun cdv A outer s H vs Q E hr h => ?_)
  · obtain ⟨a, ns, v, rfl, _⟩ := h; rfl
  · obtain ⟨a, ns, v, rfl, hS, hY, hv, e, k⟩ := h
    refine ⟨_, (pss_cons (ps_expr (pe_call G_refuse_bad_sum (hr.mono (by first | decide | omega)) rfl T.m_refuse_bad_sum T.k_refuse_bad_sum T.b_refuse_bad_sum .nil passX (pa_cons (pv 0) (pa_cons (pv 1) pa_nil))))
      pss_never), ?_⟩
    exact ⟨_, rfl, _, rfl, a, ns, v, rfl, hS, hY, hv, .inl ⟨e, k⟩⟩
theorem sc_by_greatest : FnScope ["system", "number", "falling_way", "left", "coin"] ["system", "number"] (defScope s_by_greatest) := ⟨rfl, rfl, rfl, by decide +kernel, rfl, by decide +kernel, by decide +kernel⟩
def sp_by_greatest (K : PySem.W.Frag) (t : Adr) : Sp := fun vs H Q E => ∃ (a : Addr) (ns : List Int) (v : V), vs = [.ref a, v] ∧ Sy H a ns ∧ TM.IsSys ns ∧ Kn H v ∧ numB v 0 2000 = false ∧ ∀ H', Same H H' → E (.ref t.c_BadSum) none H'
theorem ok_by_greatest (T : Txt K mg t) : FnOk P w K mg base (CX1 P w base) 5 t.f_by_greatest t.d_by_greatest ["system", "number"] (sp_by_greatest K t) := by
  have G_refuse_bad_sum := ok_refuse_bad_sum (P := P) (w := w) (base := base) T
  have S := sc_by_greatest
  refine T.F_by_greatest.okX S (fun vs H Q E h => ?_) (fun cdv A outer s H vs Q E hr h => ?_)
  · obtain ⟨a, ns, v, rfl, _⟩ := h; rfl
  · obtain ⟨a, ns, v, rfl, hS, hY, hv, e, k⟩ := h
    refine ⟨_, (pss_cons (ps_expr (pe_call G_refuse_bad_sum (hr.mono (by first | decide | omega)) rfl T.m_refuse_bad_sum T.k_refuse_bad_sum T.b_refuse_bad_sum .nil passX (pa_cons (pv 0) (pa_cons (pv 1) pa_nil))))
      pss_never), ?_⟩
    exact ⟨_, rfl, _, rfl, a, ns, v, rfl, hS, hY, hv, .inl ⟨e, k⟩⟩
theorem sc_count_ways : FnScope ["system", "number", "counts", "coin", "part"] ["system", "number"] (defScope s_count_ways) := ⟨rfl, rfl, rfl, by decide +kernel, rfl, by decide +kernel, by decide +kernel⟩
def sp_count_ways (K : PySem.W.Frag) (t : Adr) : Sp := fun vs H Q E => ∃ (a : Addr) (ns : List Int) (v : V), vs = [.ref a, v] ∧ Sy H a ns ∧ TM.IsSys ns ∧ Kn H v ∧ numB v 0 2000 = false ∧ ∀ H', Same H H' → E (.ref t.c_BadSum) none H'
theorem ok_count_ways (T : Txt K mg t) : FnOk P w K mg base (CX1 P w base) 5 t.f_count_ways t.d_count_ways ["system", "number"] (sp_count_ways K t) := by
  have G_refuse_bad_sum := ok_refuse_bad_sum (P := P) (w := w) (base := base) T
  have S := sc_count_ways
  refine T.F_count_ways.okX S (fun vs H Q E h => ?_) (fun cdv A outer s H vs Q E hr h => ?_)
  · obtain ⟨a, ns, v, rfl, _⟩ := h; rfl
  · obtain ⟨a, ns, v, rfl, hS, hY, hv, e, k⟩ := h
    refine ⟨_, (pss_cons (ps_expr (pe_call G_refuse_bad_sum (hr.mono (by first | decide | omega)) rfl T.m_refuse_bad_sum T.k_refuse_bad_sum T.b_refuse_bad_sum .nil passX (pa_cons (pv 0) (pa_cons (pv 1) pa_nil))))
      pss_never), ?_⟩
    exact ⟨_, rfl, _, rfl, a, ns, v, rfl, hS, hY, hv, .inl ⟨e, k⟩⟩
theorem sc_fewest_up_to : FnScope ["system", "last", "table", "number"] ["system", "last"] (defScope s_fewest_up_to) := ⟨rfl, rfl, rfl, by decide +kernel, rfl, by decide +kernel, by decide +kernel⟩
def sp_fewest_up_to (K : PySem.W.Frag) : Sp := fun vs H Q _ => ∃ (a : Addr) (ns : List Int) (n : Int), vs = [.ref a, .int n] ∧ Sy H a ns ∧ TM.SysW ns ∧ 0 ≤ n ∧ n ≤ 2000 ∧ ∀ (p : Addr) H', Same H H' → H p = none → H' p = some (.lst ((TM.fewRow ns n.toNat).map V.int)) → Q (.ref p) H'
theorem ok_fewest_up_to (T : Txt K mg t) : FnOk P w K mg base CX0 1 t.f_fewest_up_to t.d_fewest_up_to ["system", "last"] (sp_fewest_up_to K) := by
  have S := sc_fewest_up_to
  refine T.F_fewest_up_to.ok S (fun vs H Q E h => ?_) (fun cdv A outer s H vs Q E hr h => ?_)
  · obtain ⟨a, ns, n, rfl, _⟩ := h; rfl
  · obtain ⟨a, ns, n, rfl, hS, hY, h0, h1, k⟩ := h
    refine ⟨_, (pss_cons (ps_set (i := 2) S.nd rfl (Or.inr rfl) (pe_lst (pa_cons pe_int pa_nil)))
      (pss_cons (ps_for PassesOwn.never rfl (pi_range2 rfl T.n_range (pa_cons pe_int (pa_cons (pe_op op_add (pv 1) pe_int) pa_nil))) (pg_name (i := 3) S.nd rfl (Or.inr rfl))
        (pss_one (ps_expr (pe_bm PySem.F.plainAttrs_list PySem.F.slot_list_append PySem.F.type_list_append mt_append (pv 2) (pa_cons (pe_op op_add pe_int (pe_callB (call_minL rfl) rfl T.n_min bt_min (pa_cons (pe_comp ["coin"] ["number", "table"] [3, 2] rfl ⟨⟨rfl, .inl rfl, rfl⟩, ⟨rfl, .inl rfl, rfl⟩, trivial⟩ ⟨rfl, by decide +kernel, by decide +kernel, by decide +kernel⟩ (pi_tup (pv 0)) (gk_name (by decide))
          (fun C s₀ H₀ fp pn => (pg_name (i := 0) (show List.Nodup (["coin", "number", "table"] : List Str) by decide +kernel) rfl (Or.inl rfl))) (fun C s₀ H₀ fp pn => (pf_one (pt_cmpR op_le (pv 0) (pv 1) (nomark _)))) (fun C s₀ H₀ fp pn => (pe_ix (show IxR _ (rIxL K) from ix_list) (pv 2) (pe_op op_sub (pv 1) (pv 0)) (fun _ _ => rfl)))) pa_nil))) pa_nil)))))
      (pss_one (ps_ret (pv 2))))), ?_⟩
    simp only [L2.start, List.map_cons, List.map_nil, List.length_cons, List.length_nil, List.cons_append, List.nil_append, List.append_nil, Nat.reduceAdd, Nat.reduceSub, Nat.sub_self, Nat.zero_add, List.replicate, tSeq, tNext, tDrop, tRet, tRetN, tIfS, tAsg, gName, tVar, tC, tOp, tUn, tB, tTest, tCB, tCall, tCons, tNil, tAnd, tOr, tNot, tAndV, tOrV, tNotV, tChain, tBM, rI, rI0, rU, rEq, rNe, rIxL, rIxT, rIsI, rLen, rSum, rMin, rMax, rAll, rAppend, tSl, rSlT, rSlL, tPart, tNoPart, gTup, gCons, gNil, tTrue, compSt, tLst, tTup, Option.getD_some, Option.getD_none, List.getElem?_cons_zero, List.getElem?_cons_succ, List.set_cons_zero, List.set_cons_succ, Option.some.injEq, V.int.injEq, V.bl.injEq, V.ref.injEq, exists_eq_left, exists_eq_left', true_and, and_true, List.cons.injEq, V.ty.injEq, reduceCtorEq, false_and, and_false, exists_false, if_true, if_false, Bool.false_eq_true, Bool.not_true, Bool.not_false, cxOf, Cx.nox, Cx.wish]
    refine ⟨Nat.le_of_lt (small1000 (by decide)), fun p hp => ?_⟩
    refine ⟨_, rfl, _, _, rfl, rfl, _, _, rfl, ⟨by omega, by omega, by omega, by omega⟩, for_range (lo := 1) (n := (n + 1 - 1).toNat)
      (fun i σ H2 => ∃ v, σ = [some (.ref a), some (.int n), some (.ref p), v] ∧ Same H H2 ∧ H2 p = some (.lst ((TM.fewRow ns i).map V.int))) ⟨none, rfl, Same.upd hp, upd_same⟩ ?_ ?_⟩
    · rintro i σ H2 hi ⟨v, rfl, s2, h2⟩
      simp only [L2.start, List.map_cons, List.map_nil, List.length_cons, List.length_nil, List.cons_append, List.nil_append, List.append_nil, Nat.reduceAdd, Nat.reduceSub, Nat.sub_self, Nat.zero_add, List.replicate, tSeq, tNext, tDrop, tRet, tRetN, tIfS, tAsg, gName, tVar, tC, tOp, tUn, tB, tTest, tCB, tCall, tCons, tNil, tAnd, tOr, tNot, tAndV, tOrV, tNotV, tChain, tBM, rI, rI0, rU, rEq, rNe, rIxL, rIxT, rIsI, rLen, rSum, rMin, rMax, rAll, rAppend, tSl, rSlT, rSlL, tPart, tNoPart, gTup, gCons, gNil, tTrue, compSt, tLst, tTup, Option.getD_some, Option.getD_none, List.getElem?_cons_zero, List.getElem?_cons_succ, List.set_cons_zero, List.set_cons_succ, Option.some.injEq, V.int.injEq, V.bl.injEq, V.ref.injEq, exists_eq_left, exists_eq_left', true_and, and_true, List.cons.injEq, V.ty.injEq, reduceCtorEq, false_and, and_false, exists_false, if_true, if_false, Bool.false_eq_true, Bool.not_true, Bool.not_false, cxOf, Cx.nox, Cx.wish]
      have hrow := TM.fewRow_length ns i
      refine ⟨.inl ⟨rfl, _, SqL.of h2⟩, _, rfl, a, rfl, ⟨_, (hS.same s2).sq⟩, comp_tup (xs := ns.map V.int)
        (fun j ys H3 => Same H2 H3 ∧ ys = ((ns.take j).filter fun c => decide (c ≤ 1 + (i : Int))).map fun c => V.int ((TM.fewRow ns i).getD (1 + (i : Int) - c).toNat 0))
        ⟨Same.refl _, rfl⟩ (fun j ys H3 _ ⟨s3, _⟩ => ((hS.same s2).same s3).sq) ?_ ?_⟩
      · rintro j x ys H3 hj hx ⟨s3, rfl⟩
        obtain ⟨c, rfl, hc⟩ := map_get hx
        have hc1 := hY.pos c (List.mem_of_getElem? hc)
        simp only [L2.start, List.map_cons, List.map_nil, List.length_cons, List.length_nil, List.cons_append, List.nil_append, List.append_nil, Nat.reduceAdd, Nat.reduceSub, Nat.sub_self, Nat.zero_add, List.replicate, tSeq, tNext, tDrop, tRet, tRetN, tIfS, tAsg, gName, tVar, tC, tOp, tUn, tB, tTest, tCB, tCall, tCons, tNil, tAnd, tOr, tNot, tAndV, tOrV, tNotV, tChain, tBM, rI, rI0, rU, rEq, rNe, rIxL, rIxT, rIsI, rLen, rSum, rMin, rMax, rAll, rAppend, tSl, rSlT, rSlL, tPart, tNoPart, gTup, gCons, gNil, tTrue, compSt, tLst, tTup, Option.getD_some, Option.getD_none, List.getElem?_cons_zero, List.getElem?_cons_succ, List.set_cons_zero, List.set_cons_succ, Option.some.injEq, V.int.injEq, V.bl.injEq, V.ref.injEq, exists_eq_left, exists_eq_left', true_and, and_true, List.cons.injEq, V.ty.injEq, reduceCtorEq, false_and, and_false, exists_false, if_true, if_false, Bool.false_eq_true, Bool.not_true, Bool.not_false, cxOf, Cx.nox, Cx.wish]
        refine ⟨_, _, rfl, rfl, ?_⟩
        by_cases hle : c ≤ 1 + (i : Int)
        · rw [if_pos (decide_eq_true hle)]
          refine ⟨_, _, rfl, rfl, _, _, _, _, rfl, rfl, SqL.of (s3 _ _ h2), atI_ints (by omega) (by rw [hrow]; omega), small1000 ?_, CN.mk hj ⟨s3, ?_⟩⟩
          · rw [List.length_map]
            refine Nat.le_trans (List.length_filter_le _ _) ?_
            rw [List.length_take]; have := hY.len; omega
          · rw [filter_take_succ _ hc, decide_eq_true hle, List.map_append]; rfl
        · rw [if_neg (by rw [decide_eq_false hle]; exact Bool.false_ne_true)]
          refine CN.mk hj ⟨s3, ?_⟩
          rw [filter_take_succ _ hc, decide_eq_false hle]; simp
      · rintro ys H3 ⟨s3, rfl⟩ q hq
        have hqp : p ≠ q := ne_of_none (s3 _ _ h2) hq
        have h3 : upd H3 q (.lst (((ns.take (ns.map V.int).length).filter fun c => decide (c ≤ 1 + (i : Int))).map fun c => V.int ((TM.fewRow ns i).getD (1 + (i : Int) - c).toNat 0))) p = some (.lst ((TM.fewRow ns i).map V.int)) := by
          rw [upd_ne hqp]; exact s3 _ _ h2
        refine ⟨q, (ns.filter fun c => decide (c ≤ 1 + (i : Int))).map fun c => (TM.fewRow ns i).getD (1 + (i : Int) - c).toNat 0, rfl, .inl (SqL.of (upd_same.trans ?_)), ?_, _, _, rfl, rfl, p, _, _, rfl, rfl, h3, ?_, ?_⟩
        · rw [List.length_map, List.take_length, List.map_map]; rfl
        · intro z
          rw [List.map_eq_nil_iff] at z
          have : (1 : Int) ∈ ns.filter fun c => decide (c ≤ 1 + (i : Int)) := List.mem_filter.mpr ⟨hY.mem1, decide_eq_true (by omega)⟩
          rw [z] at this; cases this
        · rw [List.length_map, hrow]
          have : i + 1 ≤ 2001 := by omega
          exact Nat.lt_of_le_of_lt this (by rw [sizeLine_eq]; decide)
        · refine ⟨fun b o e => ?_, ?_⟩
          · have hbp : b ≠ p := ne_of_none e hp
            have h4 := s3 _ _ (s2 _ _ e)
            rw [upd_ne hbp, upd_ne (ne_of_none h4 hq)]; exact h4
          · rw [upd_same, TM.fewRow, List.map_append]
            have e1 : ((i + 1 : Nat) : Int) = 1 + (i : Int) := by omega
            show some (HO.lst _) = some (HO.lst _)
            unfold TM.nextFew
            rw [e1]
            rfl
    · rintro σ H2 ⟨v, rfl, s2, h2⟩
      simp only [L2.start, List.map_cons, List.map_nil, List.length_cons, List.length_nil, List.cons_append, List.nil_append, List.append_nil, Nat.reduceAdd, Nat.reduceSub, Nat.sub_self, Nat.zero_add, List.replicate, tSeq, tNext, tDrop, tRet, tRetN, tIfS, tAsg, gName, tVar, tC, tOp, tUn, tB, tTest, tCB, tCall, tCons, tNil, tAnd, tOr, tNot, tAndV, tOrV, tNotV, tChain, tBM, rI, rI0, rU, rEq, rNe, rIxL, rIxT, rIsI, rLen, rSum, rMin, rMax, rAll, rAppend, tSl, rSlT, rSlL, tPart, tNoPart, gTup, gCons, gNil, tTrue, compSt, tLst, tTup, Option.getD_some, Option.getD_none, List.getElem?_cons_zero, List.getElem?_cons_succ, List.set_cons_zero, List.set_cons_succ, Option.some.injEq, V.int.injEq, V.bl.injEq, V.ref.injEq, exists_eq_left, exists_eq_left', true_and, and_true, List.cons.injEq, V.ty.injEq, reduceCtorEq, false_and, and_false, exists_false, if_true, if_false, Bool.false_eq_true, Bool.not_true, Bool.not_false, cxOf, Cx.nox, Cx.wish]
      have e : (n + 1 - 1).toNat = n.toNat := by omega
      rw [e] at h2
      exact k p H2 s2 hp h2
theorem sc_fewest : FnScope ["system", "number"] ["system", "number"] (defScope s_fewest) := ⟨rfl, rfl, rfl, by decide +kernel, rfl, by decide +kernel, by decide +kernel⟩
def sp_fewest (K : PySem.W.Frag) (t : Adr) : Sp := fun vs H Q E => ∃ (a : Addr) (ns : List Int) (v : V), vs = [.ref a, v] ∧ Sy H a ns ∧ TM.IsSys ns ∧ Kn H v ∧ ((numB v 0 2000 = false ∧ ∀ H', Same H H' → E (.ref t.c_BadSum) none H') ∨ (∃ n, v = .int n ∧ 0 ≤ n ∧ n ≤ 2000 ∧ ∀ H', Same H H' → Q (.int (TM.fw ns n)) H'))
theorem ok_fewest (T : Txt K mg t) : FnOk P w K mg base (CX1 P w base) 5 t.f_fewest t.d_fewest ["system", "number"] (sp_fewest K t) := by
  have G_refuse_bad_sum := ok_refuse_bad_sum (P := P) (w := w) (base := base) T
  have G_fewest_up_to := ok_fewest_up_to (P := P) (w := w) (base := base) T
  have S := sc_fewest
  refine T.F_fewest.okX S (fun vs H Q E h => ?_) (fun cdv A outer s H vs Q E hr h => ?_)
  · obtain ⟨a, ns, v, rfl, _⟩ := h; rfl
  · obtain ⟨a, ns, v, rfl, hS, hY, hv, h⟩ := h
    refine ⟨_, (pss_cons (ps_expr (pe_call G_refuse_bad_sum (hr.mono (by first | decide | omega)) rfl T.m_refuse_bad_sum T.k_refuse_bad_sum T.b_refuse_bad_sum .nil passX (pa_cons (pv 0) (pa_cons (pv 1) pa_nil))))
      (pss_one (PS.nox (ps_ret (pe_ix ix_list (pe_call G_fewest_up_to (hr.mono (by first | decide | omega)) rfl T.m_fewest_up_to T.k_fewest_up_to T.b_fewest_up_to .nil pass0 (pa_cons (pv 0) (pa_cons (pv 1) pa_nil))) (pv 1) (fun _ _ => rfl)))))), ?_⟩
    rcases h with ⟨e, k⟩ | ⟨n, rfl, h0, h1, k⟩
    · exact ⟨_, rfl, _, rfl, a, ns, v, rfl, hS, hY, hv, .inl ⟨e, k⟩⟩
    · refine ⟨_, rfl, _, rfl, a, ns, .int n, rfl, hS, hY, hv, .inr ⟨num_ok h0 h1, fun H2 s2 => ?_⟩⟩
      refine ⟨_, rfl, _, rfl, a, ns, n, rfl, hS.same s2, hY, h0, h1, fun p H3 s3 _ hp => ⟨_, rfl, p, _, n, _, rfl, rfl, SqL.of hp, atI_ints h0 ?_, ?_⟩⟩
      · rw [TM.fewRow_length]; omega
      · exact k H3 (s2.trans s3)
theorem sc_excess : FnScope ["system", "number"] ["system", "number"] (defScope s_excess) := ⟨rfl, rfl, rfl, by decide +kernel, rfl, by decide +kernel, by decide +kernel⟩
def sp_excess (K : PySem.W.Frag) (t : Adr) : Sp := fun vs H Q E => ∃ (a : Addr) (ns : List Int) (v : V), vs = [.ref a, v] ∧ Sy H a ns ∧ TM.IsSys ns ∧ Kn H v ∧ numB v 0 2000 = false ∧ ∀ H', Same H H' → E (.ref t.c_BadSum) none H'
theorem ok_excess (T : Txt K mg t) : FnOk P w K mg base (CX1 P w base) 6 t.f_excess t.d_excess ["system", "number"] (sp_excess K t) := by
  have G_by_greatest := ok_by_greatest (P := P) (w := w) (base := base) T
  have G_fewest := ok_fewest (P := P) (w := w) (base := base) T
  have S := sc_excess
  refine T.F_excess.okX S (fun vs H Q E h => ?_) (fun cdv A outer s H vs Q E hr h => ?_)
  · obtain ⟨a, ns, v, rfl, _⟩ := h; rfl
  · obtain ⟨a, ns, v, rfl, hS, hY, hv, e, k⟩ := h
    refine ⟨_, (pss_one (ps_ret (pe_op op_sub (pe_callB (call_sum rfl) rfl T.n_sum bt_sum (pa_cons (pe_call G_by_greatest (hr.mono (by first | decide | omega)) rfl T.m_by_greatest T.k_by_greatest T.b_by_greatest .nil passX (pa_cons (pv 0) (pa_cons (pv 1) pa_nil))) pa_nil)) (pe_call G_fewest (hr.mono (by first | decide | omega)) rfl T.m_fewest T.k_fewest T.b_fewest .nil passX (pa_cons (pv 0) (pa_cons (pv 1) pa_nil)))))), ?_⟩
    exact ⟨_, rfl, _, rfl, a, ns, v, rfl, hS, hY, hv, e, k⟩
theorem sc_one_step_further : FnScope ["outermost", "steps", "found", "least", "most", "further", "handed_over", "step", "total"] ["outermost", "steps", "found", "least", "most"] (defScope s_one_step_further) := ⟨rfl, rfl, rfl, by decide +kernel, rfl, by decide +kernel, by decide +kernel⟩
def sp_one_step_further (K : PySem.W.Frag) : Sp := fun vs H Q _ => ∃ (o st f : Addr) (outs steps : List Int) (fd : TM.Fd) (lo hi : Int), vs = [.ref o, .ref st, .ref f, .int lo, .int hi] ∧ H o = some (.lst (outs.map V.int)) ∧ H st = some (.lst (steps.map V.int)) ∧ H f = some (.dK (fdK fd)) ∧ TM.WinOk lo hi (fd, []) ∧ hi - lo + 1 ≤ 900 ∧
  ∀ (p : Addr) H', SameX f H H' → H p = none → H' f = some (.dK (fdK (TM.ring steps lo hi fd outs).1)) → H' p = some (.lst ((TM.ring steps lo hi fd outs).2.map V.int)) → Q (.ref p) H'
theorem ok_one_step_further (T : Txt K mg t) : FnOk P w K mg base CX0 1 t.f_one_step_further t.d_one_step_further ["outermost", "steps", "found", "least", "most"] (sp_one_step_further K) := by
  have S := sc_one_step_further
  refine T.F_one_step_further.ok S (fun vs H Q E h => ?_) (fun cdv A outer s H vs Q E hr h => ?_)
  · obtain ⟨o, st, f, outs, steps, fd, lo, hi, rfl, _⟩ := h; rfl
  · obtain ⟨o, st, f, outs, steps, fd, lo, hi, rfl, ho, hst, hf, hW, h9, k⟩ := h
    refine ⟨_, (pss_cons (ps_set (i := 5) S.nd rfl (Or.inl rfl) (pe_lst pa_nil))
      (pss_cons (ps_for PassesOwn.never rfl (pi_list (pv 0)) (pg_name (i := 6) S.nd rfl (Or.inl rfl))
        (pss_one (ps_for PassesOwn.never rfl (pi_list (pv 1)) (pg_name (i := 7) S.nd rfl (Or.inl rfl))
        (pss_cons (ps_set (i := 8) S.nd rfl (Or.inl rfl) (pe_op op_add (pv 6) (pv 7)))
      (pss_one (ps_if (PW.pt (pw_and (pt_chain op_le op_le (pv 3) (pv 8) (pv 4)) (pw_and1 (pt_cmp (pc_dnotin (hu_of hr) (pv 8) (pv 2)))))) (pss_cons (ps_dput (hu_of hr) (pv 2) (pv 8) (pv 7) rfl)
      (pss_one (ps_expr (pe_bm PySem.F.plainAttrs_list PySem.F.slot_list_append PySem.F.type_list_append mt_append (pv 5) (pa_cons (pv 8) pa_nil))))) pss_nil))))))
      (pss_one (ps_ret (pv 5))))), ?_⟩
    have hof : o ≠ f := fun e => by rw [e, hf] at ho; cases ho
    have hsf : st ≠ f := fun e => by rw [e, hf] at hst; cases hst
    refine ⟨Nat.zero_le _, fun q hq => ?_⟩
    have hqf : f ≠ q := ne_of_none hf hq
    refine ⟨_, rfl, o, rfl, ⟨_, SqL.of (Same.upd hq _ _ ho)⟩, for_list (xs := outs.map V.int)
      (fun i σ H2 => ∃ v6 v7 v8, σ = [some (.ref o), some (.ref st), some (.ref f), some (.int lo), some (.int hi), some (.ref q), v6, v7, v8] ∧ SameX f H H2 ∧ H2 f = some (.dK (fdK ((outs.take i).foldl (TM.stepAll steps lo hi) (fd, [])).1)) ∧ H2 q = some (.lst (((outs.take i).foldl (TM.stepAll steps lo hi) (fd, [])).2.map V.int)))
      ⟨none, none, none, rfl, (Same.upd hq).x, by rw [upd_ne hqf]; exact hf, upd_same⟩ (fun i σ H2 _ ⟨_, _, _, _, s2, _⟩ => SqL.of (s2 _ _ hof ho)) ?_ ?_⟩
    · rintro i x σ H2 hx ⟨v6, v7, v8, rfl, s2, hf2, hq2⟩
      obtain ⟨h, rfl, hh⟩ := map_get hx
      have wi := TM.WinOk.all (steps := steps) (outs.take i) hW
      have et : outs.take (i + 1) = outs.take i ++ [h] := by rw [List.take_add_one, hh]; rfl
      generalize heq : (outs.take i).foldl (TM.stepAll steps lo hi) (fd, []) = acc at wi hf2 hq2
      have wk : ∀ j, TM.WinOk lo hi ((steps.take j).foldl (TM.stepOne lo hi h) acc) := fun j => TM.WinOk.fold _ wi
      refine ⟨_, rfl, st, rfl, ⟨_, SqL.of (s2 _ _ hsf hst)⟩, for_list (xs := steps.map V.int)
        (fun j σ H3 => ∃ v7 v8, σ = [some (.ref o), some (.ref st), some (.ref f), some (.int lo), some (.int hi), some (.ref q), some (.int h), v7, v8] ∧ SameX f H H3 ∧ H3 f = some (.dK (fdK ((steps.take j).foldl (TM.stepOne lo hi h) acc).1)) ∧ H3 q = some (.lst (((steps.take j).foldl (TM.stepOne lo hi h) acc).2.map V.int)))
        ⟨v7, v8, rfl, s2, hf2, hq2⟩ (fun j σ H3 _ ⟨_, _, _, s3, _⟩ => SqL.of (s3 _ _ hsf hst)) ?_ ?_⟩
      · rintro j x σ H3 hx ⟨v7, v8, rfl, s3, hf3, hq3⟩
        obtain ⟨d, rfl, hd⟩ := map_get hx
        have w := wk j
        have ej : (steps.take (j + 1)).foldl (TM.stepOne lo hi h) acc = TM.stepOne lo hi h ((steps.take j).foldl (TM.stepOne lo hi h) acc) d := by
          rw [List.take_add_one, hd, List.foldl_append]; rfl
        rw [ej]
        generalize (steps.take j).foldl (TM.stepOne lo hi h) acc = ac at w hf3 hq3
        have hsz := w.size
        have hl2 := w.len
        have stay : ¬ (lo ≤ h + d ∧ h + d ≤ hi ∧ TM.keyIn ac.1 (h + d) = false) → TM.stepOne lo hi h ac d = ac := fun n => by unfold TM.stepOne; rw [if_neg n]
        refine ⟨_, rfl, _, rfl, _, _, rfl, rfl, ?_⟩
        refine ⟨_, rfl, _, rfl, _, _, rfl, rfl, _, rfl, ?_⟩
        by_cases c1 : lo ≤ h + d
        · refine iteP (decide_eq_true c1) ⟨_, rfl, _, _, rfl, rfl, _, rfl, ?_⟩
          by_cases c2 : h + d ≤ hi
          · refine iteP (decide_eq_true c2) ⟨_, rfl, _, rfl, f, _, rfl, DGet.k (k := Sum.inl (h + d)) hf3, _, rfl, ?_⟩
            rw [has_fdK]
            cases c3 : TM.keyIn ac.1 (h + d) with
            | true =>
              refine iteN (by exact Bool.false_ne_true) ?_
              rw [stay (fun z => by rw [c3] at z; exact absurd z.2.2 (by decide))]
              exact ⟨_, _, rfl, s3, hf3, hq3⟩
            | false =>
              have es : TM.stepOne lo hi h ac d = (ac.1 ++ [(h + d, d)], ac.2 ++ [h + d]) := by unfold TM.stepOne; rw [if_pos ⟨c1, c2, c3⟩]
              refine iteP rfl ⟨_, rfl, _, rfl, _, rfl, f, _, rfl, DPut.k (k := Sum.inl (h + d)) hf3 (small1000 (by rw [fdK_len]; omega)), ?_⟩
              rw [put_fdK c3]
              have hq4 : upd H3 f (.dK (fdK (ac.1 ++ [(h + d, d)]))) q = some (.lst (ac.2.map V.int)) := by rw [upd_ne (Ne.symm hqf)]; exact hq3
              refine ⟨_, rfl, .inl ⟨rfl, _, SqL.of hq4⟩, _, rfl, q, _, _, rfl, rfl, hq4, small1000 (by rw [List.length_map]; omega), ?_⟩
              rw [es]
              refine ⟨_, _, rfl, fun b u nb e => ?_, ?_, ?_⟩
              · rw [upd_ne (ne_of_none e hq), upd_ne nb]; exact s3 b u nb e
              · rw [upd_ne hqf, upd_same]
              · rw [upd_same, List.map_append]; rfl
          · refine iteN (fun z => c2 (of_decide_eq_true z)) (iteN (by exact Bool.false_ne_true) ?_)
            rw [stay (fun z => c2 z.2.1)]
            exact ⟨_, _, rfl, s3, hf3, hq3⟩
        · refine iteN (fun z => c1 (of_decide_eq_true z)) ⟨_, rfl, iteN (by exact Bool.false_ne_true) (iteN (by exact Bool.false_ne_true) ?_)⟩
          rw [stay (fun z => c1 z.1)]
          exact ⟨_, _, rfl, s3, hf3, hq3⟩
      · rintro σ H3 ⟨v7, v8, rfl, s3, hf3, hq3⟩
        rw [List.length_map, List.take_length] at hf3 hq3
        refine ⟨_, _, _, rfl, s3, ?_, ?_⟩
        · rw [et, List.foldl_append, heq]; exact hf3
        · rw [et, List.foldl_append, heq]; exact hq3
    · rintro σ H2 ⟨v6, v7, v8, rfl, s2, hf2, hq2⟩
      rw [List.length_map, List.take_length] at hf2 hq2
      exact ⟨_, rfl, k q H2 s2 hq hf2 hq2⟩
theorem sc_last_steps : FnScope ["system", "number", "least", "most", "steps", "found", "outermost"] ["system", "number"] (defScope s_last_steps) := ⟨rfl, rfl, rfl, by decide +kernel, rfl, by decide +kernel, by decide +kernel⟩
def sp_last_steps (K : PySem.W.Frag) : Sp := fun vs H Q _ => ∃ (a : Addr) (ns : List Int) (n : Int), vs = [.ref a, .int n] ∧ Sy H a ns ∧ TM.IsSys ns ∧ 0 ≤ n ∧ n ≤ 400 ∧
  ∀ (f : Addr) (d : Nat) H', TM.Dst ns (-TM.topC ns) (n + TM.topC ns) d n → Same H H' → H f = none → H' f = some (.dK (fdK (TM.rings (TM.stepsOf ns) (-TM.topC ns) (n + TM.topC ns) d).1)) → Q (.ref f) H'
theorem ok_last_steps (T : Txt K mg t) : FnOk P w K mg base CX0 2 t.f_last_steps t.d_last_steps ["system", "number"] (sp_last_steps K) := by
  have G_one_step_further := ok_one_step_further (P := P) (w := w) (base := base) T
  have S := sc_last_steps
  refine T.F_last_steps.ok S (fun vs H Q E h => ?_) (fun cdv A outer s H vs Q E hr h => ?_)
  · obtain ⟨a, ns, n, rfl, _⟩ := h; rfl
  · obtain ⟨a, ns, n, rfl, hS, hY, h0, h4, k⟩ := h
    refine ⟨_, (pss_cons (ps_set (i := 2) S.nd rfl (Or.inl rfl) (pe_un un_neg (pe_ix ix_tup (pv 0) (pe_un un_neg pe_int) (fun _ _ => rfl))))
      (pss_cons (ps_set (i := 3) S.nd rfl (Or.inl rfl) (pe_op op_add (pv 1) (pe_ix ix_tup (pv 0) (pe_un un_neg pe_int) (fun _ _ => rfl))))
      (pss_cons (ps_set (i := 4) S.nd rfl (Or.inl rfl) (pe_op op_cat (pe_callTy call_list_of rfl T.n_list bt_list (pa_cons (pv 0) pa_nil)) (pe_comp ["coin"] [] [] rfl trivial ⟨rfl, by decide +kernel, by decide +kernel, by decide +kernel⟩ (pi_tup (pv 0)) (gk_name (by decide))
          (fun C s₀ H₀ fp pn => (pg_name (i := 0) (show List.Nodup (["coin"] : List Str) by decide +kernel) rfl (Or.inl rfl))) (fun C s₀ H₀ fp pn => pf_nil) (fun C s₀ H₀ fp pn => (pe_un un_neg (pv 0))))))
      (pss_cons (ps_set (i := 5) S.nd rfl (Or.inl rfl) (pe_disp (pps_cons pe_int pe_int pps_nil) rfl rfl (by decide) (by decide)))
      (pss_cons (ps_set (i := 6) S.nd rfl (Or.inl rfl) (pe_lst (pa_cons pe_int pa_nil)))
      (pss_cons (ps_while PassesOwn.never (pt_cmp (pc_dnotin (hu_of hr) (pv 1) (pv 5)))
        (pss_one (ps_set (i := 6) S.nd rfl (Or.inl rfl) (pe_call G_one_step_further (hr.mono (by first | decide | omega)) rfl T.m_one_step_further T.k_one_step_further T.b_one_step_further .nil pass0 (pa_cons (pv 6) (pa_cons (pv 4) (pa_cons (pv 5) (pa_cons (pv 2) (pa_cons (pv 3) pa_nil)))))))))
      (pss_one (ps_ret (pv 5))))))))), ?_⟩
    have hne : ns ≠ [] := fun z => by have := hY.ne; rw [z] at this; exact absurd this (by decide)
    have h8 := hY.len
    have ht1 := TM.topC_one hY.w
    have ht2 : TM.topC ns ≤ 200 := (hY.pos _ (TM.topC_mem hY.w)).2
    obtain ⟨d, hd4, hd⟩ := TM.hand_dst hY.w h0
    have R := fun j => TM.hand_ring hY.w h0 j
    have hit := top_at hne
    generalize hT : TM.topC ns = T at ht1 ht2 hd R hit k
    refine ⟨_, rfl, _, rfl, a, _, _, _, rfl, rfl, hS.sq, hit, _, rfl, ?_⟩
    refine ⟨_, rfl, _, rfl, _, rfl, a, _, _, _, rfl, rfl, hS.sq, hit, _, _, rfl, rfl, ?_⟩
    refine ⟨_, rfl, a, _, rfl, .inr hS.sq, fun l hl => ?_⟩
    have s1 := Same.upd (o := .lst (ns.map V.int)) hl
    have hl1 : upd H l (.lst (ns.map V.int)) l = some (.lst (ns.map V.int)) := upd_same
    generalize upd H l (.lst (ns.map V.int)) = H1 at s1 hl1
    refine ⟨_, rfl, a, rfl, ⟨_, (hS.same s1).sq⟩, comp_tup (xs := ns.map V.int) (fun i ys H2 => Same H1 H2 ∧ ys = (ns.take i).map fun c => V.int (-c)) ⟨Same.refl _, rfl⟩ (fun i ys H2 _ ⟨s2, _⟩ => ((hS.same s1).same s2).sq) ?_ ?_⟩
    · rintro i x ys H2 hi hx ⟨s2, rfl⟩
      obtain ⟨c, rfl, hc⟩ := map_get hx
      refine ⟨_, rfl, _, rfl, small1000 ?_, CN.mk hi ⟨s2, ?_⟩⟩
      · rw [List.length_map, List.length_take]; omega
      · rw [List.take_add_one, hc, List.map_append]; rfl
    · rintro ys H2 ⟨s2, rfl⟩ r hr
      rw [List.length_map, List.take_length]
      have s3 := Same.upd (o := .lst (ns.map fun c => V.int (-c))) hr
      have hr3 : upd H2 r (.lst (ns.map fun c => V.int (-c))) r = some (.lst (ns.map fun c => V.int (-c))) := upd_same
      generalize upd H2 r (.lst (ns.map fun c => V.int (-c))) = H3 at s3 hr3
      refine ⟨l, r, _, _, rfl, rfl, s3 _ _ (s2 _ _ hl1), hr3, Nat.le_of_lt (small1000 (by rw [List.length_map, List.length_map]; omega)), fun st hst => ?_⟩
      have est : ns.map V.int ++ ns.map (fun c => V.int (-c)) = (TM.stepsOf ns).map V.int := by unfold TM.stepsOf; rw [List.map_append, List.map_map]; rfl
      rw [est]
      have s4 := ((s1.trans s2).trans s3).trans (Same.upd (o := .lst ((TM.stepsOf ns).map V.int)) hst)
      have hst4 : upd H3 st (.lst ((TM.stepsOf ns).map V.int)) st = some (.lst ((TM.stepsOf ns).map V.int)) := upd_same
      generalize upd H3 st (.lst ((TM.stepsOf ns).map V.int)) = H4 at s4 hst4
      intro f hf
      refine ⟨upd_same, [(Sum.inl 0, V.int 0)], rfl, by decide, ?_⟩
      have hHf : H f = none := s4.free hf
      have s5 : Same H4 (upd (upd H4 f (.dK [])) f (.dK (mergeK [] [(Sum.inl 0, V.int 0)]))) := fun b o e => by rw [upd_ne (ne_of_none e hf), upd_ne (ne_of_none e hf)]; exact e
      have hf5 : upd (upd H4 f (.dK [])) f (.dK (mergeK [] [(Sum.inl 0, V.int 0)])) f = some (.dK (fdK [(0, 0)])) := upd_same
      generalize upd (upd H4 f (.dK [])) f (.dK (mergeK [] [(Sum.inl 0, V.int 0)])) = H5 at s5 hf5
      refine ⟨Nat.le_of_lt (small1000 (by show 1 ≤ 1000; decide)), fun o ho => ?_⟩
      have s6 := (s4.trans s5).trans (Same.upd (o := .lst [V.int 0]) ho)
      have hof : f ≠ o := ne_of_none hf5 ho
      refine ⟨fun meas σ H6 => ∃ (j : Nat) (o : Addr), meas + j = d ∧ σ = [some (.ref a), some (.int n), some (.int (-T)), some (.int (n + T)), some (.ref st), some (.ref f), some (.ref o)] ∧ Same H H6 ∧ H6 st = some (.lst ((TM.stepsOf ns).map V.int)) ∧ H6 f = some (.dK (fdK (TM.rings (TM.stepsOf ns) (-T) (n + T) j).1)) ∧ H6 o = some (.lst ((TM.rings (TM.stepsOf ns) (-T) (n + T) j).2.map V.int)),
        ⟨d, 0, o, rfl, rfl, s6, (s5.trans (Same.upd ho)) _ _ hst4, by rw [upd_ne hof]; exact hf5, upd_same⟩, ?_⟩
      rintro meas σ H6 ⟨j, o, hj, rfl, s6, hst6, hf6, ho6⟩
      have r := R j
      refine ⟨_, rfl, _, rfl, f, _, rfl, DGet.k (k := Sum.inl n) hf6, _, rfl, ?_⟩
      rw [has_fdK]
      cases meas with
      | zero =>
        have e : j = d := by omega
        subst e
        have hk : TM.keyIn (TM.rings (TM.stepsOf ns) (-T) (n + T) j).1 n = true := TM.keyIn_iff.mpr ((r.keys n).mpr ⟨j, Nat.le_refl _, hd.1⟩)
        refine iteN (by rw [hk]; exact Bool.false_ne_true) ⟨_, rfl, k f j H6 hd s6 hHf hf6⟩
      | succ m =>
        have hk : TM.keyIn (TM.rings (TM.stepsOf ns) (-T) (n + T) j).1 n = false := by
          cases e : TM.keyIn (TM.rings (TM.stepsOf ns) (-T) (n + T) j).1 n with
          | false => rfl
          | true =>
            obtain ⟨i, hi, hw⟩ := (r.keys n).mp (TM.keyIn_iff.mp e)
            exact absurd hw (hd.2 i (by omega))
        refine iteP (by rw [hk]; rfl) ?_
        refine ⟨fun σ' H' => ∃ o' : Addr, σ' = [some (.ref a), some (.int n), some (.int (-T)), some (.int (n + T)), some (.ref st), some (.ref f), some (.ref o')] ∧ Same H H' ∧ H' st = some (.lst ((TM.stepsOf ns).map V.int)) ∧ H' f = some (.dK (fdK (TM.rings (TM.stepsOf ns) (-T) (n + T) (j + 1)).1)) ∧ H' o' = some (.lst ((TM.rings (TM.stepsOf ns) (-T) (n + T) (j + 1)).2.map V.int)), ?_, ?_⟩
        · rintro σ' H' ⟨o', rfl, a1, a2, a3, a4⟩
          exact ⟨m, Nat.lt_succ_self _, j + 1, o', by omega, rfl, a1, a2, a3, a4⟩
        · have hsf : st ≠ f := fun e => by rw [e, hf6] at hst6; cases hst6
          refine ⟨_, rfl, _, rfl, _, rfl, _, rfl, _, rfl, o, st, f, _, _, _, _, _, rfl, ho6, hst6, hf6, ⟨r.win.nd, r.win.inw, Nat.zero_le _⟩, by omega, fun p H7 s7 hp hf7 hp7 => ?_⟩
          exact ⟨p, rfl, fun b u e => s7 b u (ne_of_none e hHf) (s6 b u e), s7 _ _ hsf hst6, hf7, hp7⟩
theorem sc_steps_back : FnScope ["found", "number", "steps", "left"] ["found", "number"] (defScope s_steps_back) := ⟨rfl, rfl, rfl, by decide +kernel, rfl, by decide +kernel, by decide +kernel⟩
def sp_steps_back (K : PySem.W.Frag) : Sp := fun vs H Q _ => ∃ (f : Addr) (n : Int) (sys steps : List Int) (lo hi : Int) (d : Nat) (fd : TM.Fd) (out : List Int), vs = [.ref f, .int n] ∧ H f = some (.dK (fdK fd)) ∧ TM.RingOk sys steps lo hi d (fd, out) ∧ TM.Dst sys lo hi d n ∧ d ≤ 900 ∧
  ∀ (p : Addr) H', Same H H' → H p = none → H' p = some (.lst ((TM.backL fd d n).map V.int)) → Q (.ref p) H'
theorem ok_steps_back (T : Txt K mg t) : FnOk P w K mg base CX0 1 t.f_steps_back t.d_steps_back ["found", "number"] (sp_steps_back K) := by
  have S := sc_steps_back
  refine T.F_steps_back.ok S (fun vs H Q E h => ?_) (fun cdv A outer s H vs Q E hr h => ?_)
  · obtain ⟨f, n, _, _, _, _, _, _, _, rfl, _⟩ := h; rfl
  · obtain ⟨f, n, sys, steps, lo, hi, d, fd, out, rfl, hf, r, hd, h9, k⟩ := h
    refine ⟨_, (pss_cons (ps_set (i := 2) S.nd rfl (Or.inl rfl) (pe_lst pa_nil))
      (pss_cons (ps_set (i := 3) S.nd rfl (Or.inl rfl) (pv 1))
      (pss_cons (ps_while PassesOwn.never (pt_cmpR op_ne (pv 3) pe_int (nomark _))
        (pss_cons (ps_expr (pe_bm PySem.F.plainAttrs_list PySem.F.slot_list_append PySem.F.type_list_append mt_append (pv 2) (pa_cons (pe_dget (hu_of hr) (pv 0) (pv 3) (fun _ _ => rfl)) pa_nil)))
      (pss_one (ps_set (i := 3) S.nd rfl (Or.inl rfl) (pe_op op_sub (pv 3) (pe_dget (hu_of hr) (pv 0) (pv 3) (fun _ _ => rfl)))))))
      (pss_one (ps_ret (pv 2)))))), ?_⟩
    refine ⟨Nat.zero_le _, fun q hq => ⟨_, rfl, ?_⟩⟩
    refine ⟨fun meas σ H2 => ∃ (left : Int) (l : List Int), σ = [some (.ref f), some (.int n), some (.ref q), some (.int left)] ∧ TM.Dst sys lo hi meas left ∧ meas + l.length = d ∧ Same H H2 ∧ H2 q = some (.lst (l.map V.int)) ∧ l ++ TM.backL fd meas left = TM.backL fd d n,
      ⟨d, n, [], rfl, hd, rfl, Same.upd hq, upd_same, rfl⟩, ?_⟩
    rintro meas σ H2 ⟨left, l, rfl, hl, hm, s2, hq2, e⟩
    refine ⟨_, rfl, rfl, _, rfl, ?_⟩
    cases meas with
    | zero =>
      have e0 := TM.dst_zero_of hl
      subst e0
      refine iteN (by exact Bool.false_ne_true) ⟨_, rfl, k q H2 s2 hq ?_⟩
      rw [← e, TM.backL, List.append_nil]; exact hq2
    | succ m =>
      have hn0 : left ≠ 0 := fun z => by rw [z] at hl; exact absurd (hl.one TM.dst_zero) (by omega)
      obtain ⟨hk, h2, h3⟩ := TM.ring_look r (by omega) hl
      have g : ∀ H', H' f = some (.dK (fdK fd)) → DGet H' f (.int left) (some (.int (TM.look fd left))) := fun H' e => by
        have := DGet.k (k := Sum.inl left) e
        rw [valV_fdK, if_pos hk] at this
        exact this
      have hf2 := s2 _ _ hf
      refine iteP (by rw [decide_eq_false (fun z => hn0 (V.int.inj z))]; rfl) ?_
      refine ⟨fun σ' H' => σ' = [some (.ref f), some (.int n), some (.ref q), some (.int (left - TM.look fd left))] ∧ H' = upd H2 q (.lst ((l ++ [TM.look fd left]).map V.int)), ?_, ?_⟩
      · rintro σ' H' ⟨rfl, rfl⟩
        refine ⟨m, Nat.lt_succ_self _, _, l ++ [TM.look fd left], rfl, h3, by rw [List.length_append, List.length_singleton]; omega, fun b o e => ?_, upd_same, ?_⟩
        · rw [upd_ne (ne_of_none e hq)]; exact s2 _ _ e
        · rw [← e, TM.backL, List.append_assoc]; rfl
      · refine ⟨_, rfl, .inl ⟨rfl, _, SqL.of hq2⟩, _, rfl, _, rfl, f, _, rfl, g _ hf2, q, _, _, rfl, rfl, hq2, small1000 (by rw [List.length_map]; omega), ?_⟩
        have hfq : f ≠ q := ne_of_none hf hq
        have em : l.map V.int ++ [V.int (TM.look fd left)] = (l ++ [TM.look fd left]).map V.int := by rw [List.map_append]; rfl
        rw [em]
        exact ⟨_, rfl, _, rfl, _, rfl, f, _, rfl, g _ (by rw [upd_ne hfq]; exact hf2), _, _, rfl, rfl, rfl, rfl⟩
theorem sc_handed : FnScope ["system", "number", "steps", "given", "given_back"] ["system", "number"] (defScope s_handed) := ⟨rfl, rfl, rfl, by decide +kernel, rfl, by decide +kernel, by decide +kernel⟩
def sp_handed (K : PySem.W.Frag) (t : Adr) : Sp := fun vs H Q E => ∃ (a : Addr) (ns : List Int) (v : V), vs = [.ref a, v] ∧ Sy H a ns ∧ TM.IsSys ns ∧ Kn H v ∧ ((numB v 0 400 = false ∧ ∀ H', Same H H' → E (.ref t.c_BadSum) none H') ∨
  (∃ n : Int, v = .int n ∧ 0 ≤ n ∧ n ≤ 400 ∧ (∀ L, TM.HandL ns n L → TC.SortOk (TM.posL L) ∧ TC.SortOk (TM.negL L)) ∧
    ∀ (L gs bs : List Int) (p q r : Addr) H', TM.HandL ns n L → Same H H' → H q = none → H r = none → q ≠ r → H' p = some (.tup [.ref q, .ref r]) → H' q = some (.lst (gs.map V.int)) → H' r = some (.lst (bs.map V.int)) →
      gs.Perm (TM.posL L) → gs.Pairwise (· ≤ ·) → bs.Perm (TM.negL L) → bs.Pairwise (· ≤ ·) → Q (.ref p) H'))
theorem posL_snoc (l : List Int) (x : Int) : TM.posL (l ++ [x]) = TM.posL l ++ (if 0 < x then [x] else []) := by
  unfold TM.posL
  rw [List.filter_append]
  congr 1
  by_cases h : 0 < x
  · rw [if_pos h]; simp [h]
  · rw [if_neg h]; simp [h]
theorem negL_snoc (l : List Int) (x : Int) : TM.negL (l ++ [x]) = TM.negL l ++ (if x < 0 then [-x] else []) := by
  unfold TM.negL
  rw [List.filter_append, List.map_append]
  congr 1
  by_cases h : x < 0
  · rw [if_pos h]; simp [h]
  · rw [if_neg h]; simp [h]
theorem posL_len (l : List Int) : (TM.posL l).length ≤ l.length := List.length_filter_le ..
theorem negL_len (l : List Int) : (TM.negL l).length ≤ l.length := by unfold TM.negL; rw [List.length_map]; exact List.length_filter_le ..
theorem ok_handed (T : Txt K mg t) : FnOk P w K mg base (CX1 P w base) 4 t.f_handed t.d_handed ["system", "number"] (sp_handed K t) := by
  have G_is_number := ok_is_number (P := P) (w := w) (base := base) T
  have G_checked := ok_checked (P := P) (w := w) (base := base) T
  have G_last_steps := ok_last_steps (P := P) (w := w) (base := base) T
  have G_steps_back := ok_steps_back (P := P) (w := w) (base := base) T
  have S := sc_handed
  refine T.F_handed.okX S (fun vs H Q E h => ?_) (fun cdv A outer s H vs Q E hr h => ?_)
  · obtain ⟨a, ns, v, rfl, _⟩ := h; rfl
  · obtain ⟨a, ns, v, rfl, hS, hY, hv, h⟩ := h
    refine ⟨_, (pss_cons (ps_expr (pe_call G_checked (hr.mono (by first | decide | omega)) rfl T.m_checked T.k_checked T.b_checked .nil passX (pa_cons (pv 0) pa_nil)))
      (pss_cons (ps_if (pt_not (pt_val (pe_call G_is_number (hr.mono (by first | decide | omega)) rfl T.m_is_number T.k_is_number T.b_is_number .nil pass0 (pa_cons (pv 1) (pa_cons pe_int (pa_cons (pe_const rfl T.c_GREATEST_HANDED) pa_nil)))))) (pss_one (ps_raise raisesX rfl rfl T.mc_BadSum T.ei_BadSum pe_str)) pss_nil)
      (pss_cons (PS.nox (ps_set (i := 2) S.nd rfl (Or.inl rfl) (pe_call G_steps_back (hr.mono (by first | decide | omega)) rfl T.m_steps_back T.k_steps_back T.b_steps_back .nil pass0 (pa_cons (pe_call G_last_steps (hr.mono (by first | decide | omega)) rfl T.m_last_steps T.k_last_steps T.b_last_steps .nil pass0 (pa_cons (pv 0) (pa_cons (pv 1) pa_nil))) (pa_cons (pv 1) pa_nil)))))
      (pss_cons (PS.nox (ps_set (i := 3) S.nd rfl (Or.inl rfl) (pe_callB call_sortL rfl T.n_sorted bt_sorted (pa_cons (pe_comp ["step"] [] [] rfl trivial ⟨rfl, by decide +kernel, by decide +kernel, by decide +kernel⟩ (pi_list (pv 2)) (gk_name (by decide))
          (fun C s₀ H₀ fp pn => (pg_name (i := 0) (show List.Nodup (["step"] : List Str) by decide +kernel) rfl (Or.inl rfl))) (fun C s₀ H₀ fp pn => (pf_one (pt_cmpR op_gt (pv 0) pe_int (nomark _)))) (fun C s₀ H₀ fp pn => (pv 0))) pa_nil))))
      (pss_cons (PS.nox (ps_set (i := 4) S.nd rfl (Or.inl rfl) (pe_callB call_sortL rfl T.n_sorted bt_sorted (pa_cons (pe_comp ["step"] [] [] rfl trivial ⟨rfl, by decide +kernel, by decide +kernel, by decide +kernel⟩ (pi_list (pv 2)) (gk_name (by decide))
          (fun C s₀ H₀ fp pn => (pg_name (i := 0) (show List.Nodup (["step"] : List Str) by decide +kernel) rfl (Or.inl rfl))) (fun C s₀ H₀ fp pn => (pf_one (pt_cmpR op_lt (pv 0) pe_int (nomark _)))) (fun C s₀ H₀ fp pn => (pe_un un_neg (pv 0)))) pa_nil))))
      (pss_one (PS.nox (ps_ret (pe_tup (pa_cons (pv 3) (pa_cons (pv 4) pa_nil))))))))))), ?_⟩
    refine ⟨_, rfl, _, rfl, .inl ⟨a, ns, rfl, hS, hY, fun H2 s2 => ?_⟩⟩
    refine ⟨_, rfl, v, 0, 400, rfl, hv.same s2, _, rfl, ?_⟩
    rcases h with ⟨e, k⟩ | ⟨n, rfl, h0, h4, so, k⟩
    · exact iteP (by rw [e]; rfl) ⟨rfl, k H2 s2⟩
    · refine iteN (by rw [num_ok h0 h4]; exact Bool.false_ne_true) ?_
      refine ⟨_, rfl, _, rfl, a, ns, n, rfl, hS.same s2, hY, h0, h4, fun f d H3 hd s3 hf0 hf3 => ?_⟩
      have hd4 : d ≤ 400 := by
        obtain ⟨d', h1, h2⟩ := TM.hand_dst hY.w h0
        rw [hd.one h2]; omega
      refine ⟨_, rfl, f, n, ns, _, _, _, d, _, (TM.rings (TM.stepsOf ns) (-TM.topC ns) (n + TM.topC ns) d).2, rfl, hf3, TM.hand_ring hY.w h0 d, hd, by omega, fun p H4 s4 hp0 hp => ?_⟩
      have hL : TM.HandL ns n (TM.backL (TM.rings (TM.stepsOf ns) (-TM.topC ns) (n + TM.topC ns) d).1 d n) := ⟨d, hd, rfl⟩
      have hLl := (TM.hand_ok hY.w h0 hL).2.2.1
      generalize TM.backL (TM.rings (TM.stepsOf ns) (-TM.topC ns) (n + TM.topC ns) d).1 d n = L at hp hL hLl
      have so := so L hL
      have s04 := (s2.trans s3).trans s4
      have Ll : L.length ≤ 400 := by omega
      refine ⟨_, rfl, p, rfl, ⟨_, SqL.of hp⟩, comp_list (xs := L.map V.int) (fun i ys H5 => Same H4 H5 ∧ ys = (TM.posL (L.take i)).map V.int) ⟨Same.refl _, rfl⟩ (fun i ys H5 _ ⟨s5, _⟩ => SqL.of (s5 _ _ hp)) ?_ ?_⟩
      · rintro i x ys H5 hi hx ⟨s5, rfl⟩
        obtain ⟨c, rfl, hc⟩ := map_get hx
        have et : L.take (i + 1) = L.take i ++ [c] := by rw [List.take_add_one, hc]; rfl
        refine ⟨_, rfl, _, _, rfl, rfl, _, rfl, ?_⟩
        by_cases h : 0 < c
        · refine iteP (decide_eq_true h) ⟨_, rfl, small1000 ?_, CN.mk hi ⟨s5, ?_⟩⟩
          · rw [List.length_map]; have := posL_len (L.take i); rw [List.length_take] at this; omega
          · rw [et, posL_snoc, if_pos h, List.map_append]; rfl
        · refine iteN (fun z => h (of_decide_eq_true z)) (CN.mk hi ⟨s5, ?_⟩)
          rw [et, posL_snoc, if_neg h, List.append_nil]
      · rintro ys H5 ⟨s5, rfl⟩ q1 hq1
        rw [List.length_map, List.take_length]
        have s6 := Same.upd (o := .lst ((TM.posL L).map V.int)) hq1
        have hq6 : upd H5 q1 (.lst ((TM.posL L).map V.int)) q1 = some (.lst ((TM.posL L).map V.int)) := upd_same
        generalize upd H5 q1 (.lst ((TM.posL L).map V.int)) = H6 at s6 hq6
        refine ⟨q1, TM.posL L, rfl, SqL.of hq6, so.1, fun q gs hq hgp hgs => ?_⟩
        have s7 := ((s04.trans s5).trans s6)
        have hHq : H q = none := s7.free hq
        have s8 := s7.trans (Same.upd (o := .lst (gs.map V.int)) hq)
        have hq8 : upd H6 q (.lst (gs.map V.int)) q = some (.lst (gs.map V.int)) := upd_same
        have hp8 : upd H6 q (.lst (gs.map V.int)) p = some (.lst (L.map V.int)) := Same.upd hq _ _ ((s5.trans s6) _ _ hp)
        generalize upd H6 q (.lst (gs.map V.int)) = H8 at s8 hq8 hp8
        refine ⟨_, rfl, p, rfl, ⟨_, SqL.of hp8⟩, comp_list (xs := L.map V.int) (fun i ys H9 => Same H8 H9 ∧ ys = (TM.negL (L.take i)).map V.int) ⟨Same.refl _, rfl⟩ (fun i ys H9 _ ⟨s9, _⟩ => SqL.of (s9 _ _ hp8)) ?_ ?_⟩
        · rintro i x ys H9 hi hx ⟨s9, rfl⟩
          obtain ⟨c, rfl, hc⟩ := map_get hx
          have et : L.take (i + 1) = L.take i ++ [c] := by rw [List.take_add_one, hc]; rfl
          refine ⟨_, rfl, _, _, rfl, rfl, _, rfl, ?_⟩
          by_cases h : c < 0
          · refine iteP (decide_eq_true h) ⟨_, rfl, _, rfl, small1000 ?_, CN.mk hi ⟨s9, ?_⟩⟩
            · rw [List.length_map]; have := negL_len (L.take i); rw [List.length_take] at this; omega
            · rw [et, negL_snoc, if_pos h, List.map_append]; rfl
          · refine iteN (fun z => h (of_decide_eq_true z)) (CN.mk hi ⟨s9, ?_⟩)
            rw [et, negL_snoc, if_neg h, List.append_nil]
        · rintro ys H9 ⟨s9, rfl⟩ r1 hr1
          rw [List.length_map, List.take_length]
          refine ⟨r1, TM.negL L, rfl, SqL.of upd_same, so.2, fun r bs hr hbp hbs => ?_⟩
          have s10 := s9.trans (Same.upd (o := .lst ((TM.negL L).map V.int)) hr1)
          generalize upd H9 r1 (.lst ((TM.negL L).map V.int)) = H10 at s10 hr
          have hq10 := s10 _ _ hq8
          have hqr : q ≠ r := ne_of_none hq10 hr
          refine ⟨_, rfl, _, rfl, Nat.le_of_lt (small1000 (by show 2 ≤ 1000; decide)), fun z hz => ?_⟩
          have s11 := (Same.upd (o := .lst (bs.map V.int)) hr)
          have s12 := (Same.upd (o := .tup [V.ref q, V.ref r]) hz)
          exact k L gs bs z q r _ hL (((s8.trans s10).trans s11).trans s12) hHq ((s8.trans s10).free hr) hqr upd_same (s12 _ _ (s11 _ _ hq10)) (s12 _ _ upd_same) hgp hgs hbp hbs
theorem sc_fewest_handed : FnScope ["system", "number"] ["system", "number"] (defScope s_fewest_handed) := ⟨rfl, rfl, rfl, by decide +kernel, rfl, by decide +kernel, by decide +kernel⟩
def sp_fewest_handed (K : PySem.W.Frag) (t : Adr) : Sp := fun vs H Q E => ∃ (a : Addr) (ns : List Int) (v : V), vs = [.ref a, v] ∧ Sy H a ns ∧ TM.IsSys ns ∧ Kn H v ∧ numB v 0 400 = false ∧ ∀ H', Same H H' → E (.ref t.c_BadSum) none H'
theorem ok_fewest_handed (T : Txt K mg t) : FnOk P w K mg base (CX1 P w base) 5 t.f_fewest_handed t.d_fewest_handed ["system", "number"] (sp_fewest_handed K t) := by
  have G_handed := ok_handed (P := P) (w := w) (base := base) T
  have S := sc_fewest_handed
  refine T.F_fewest_handed.okX S (fun vs H Q E h => ?_) (fun cdv A outer s H vs Q E hr h => ?_)
  · obtain ⟨a, ns, v, rfl, _⟩ := h; rfl
  · obtain ⟨a, ns, v, rfl, hS, hY, hv, e, k⟩ := h
    refine ⟨_, (pss_one (ps_ret (pe_callB (call_sum rfl) rfl T.n_sum bt_sum (pa_cons (pe_comp ["coins"] [] [] rfl trivial ⟨rfl, by decide +kernel, by decide +kernel, by decide +kernel⟩ (pi_tup (pe_call G_handed (hr.mono (by first | decide | omega)) rfl T.m_handed T.k_handed T.b_handed .nil passX (pa_cons (pv 0) (pa_cons (pv 1) pa_nil)))) (gk_name (by decide))
          (fun C s₀ H₀ fp pn => (pg_name (i := 0) (show List.Nodup (["coins"] : List Str) by decide +kernel) rfl (Or.inl rfl))) (fun C s₀ H₀ fp pn => pf_nil) (fun C s₀ H₀ fp pn => (pe_callB (show CallR _ _ (rLen K) from call_lenK) rfl T.n_len bt_len (pa_cons (pv 0) pa_nil)))) pa_nil)))), ?_⟩
    exact ⟨_, rfl, _, rfl, a, ns, v, rfl, hS, hY, hv, .inl ⟨e, k⟩⟩
theorem sc_is_way : FnScope ["system", "thing"] ["system", "thing"] (defScope s_is_way) := ⟨rfl, rfl, rfl, by decide +kernel, rfl, by decide +kernel, by decide +kernel⟩
def wayV (ns : List Int) (xs : List V) : Bool := decide (xs.length = ns.length) && xs.all (fun v => numB v 0 2000)
def sp_is_way (K : PySem.W.Frag) : Sp := fun vs H Q _ => ∃ (a : Addr) (ns : List Int) (v : V), vs = [.ref a, v] ∧ Sy H a ns ∧ ((∃ b xs, v = .ref b ∧ H b = some (.tup xs) ∧ (∀ x ∈ xs, Kn H x) ∧ xs.length ≤ 900 ∧ ∀ H', Same H H' → Q (.bl (wayV ns xs)) H') ∨ ((v = .non ∨ (∃ b, v = .bl b) ∨ (∃ i, v = .int i) ∨ (∃ x, v = .str x) ∨ ∃ a xs, v = .ref a ∧ H a = some (.lst xs)) ∧ Q (.bl false) H))
theorem ok_is_way (T : Txt K mg t) : FnOk P w K mg base CX0 2 t.f_is_way t.d_is_way ["system", "thing"] (sp_is_way K) := by
  have G_is_number := ok_is_number (P := P) (w := w) (base := base) T
  have S := sc_is_way
  refine T.F_is_way.ok S (fun vs H Q E h => ?_) (fun cdv A outer s H vs Q E hr h => ?_)
  · obtain ⟨a, ns, v, rfl, _⟩ := h; rfl
  · obtain ⟨a, ns, v, rfl, hS, h⟩ := h
    refine ⟨_, (pss_cons (ps_if (PW.pt (pw_or (pt_not (pt_val (pe_callB call_isinst rfl T.n_isinstance bt_isinstance (pa_cons (pv 1) (pa_cons (pe_tyn rfl T.n_tuple bt_tuple) pa_nil))))) (pw_or1 (pt_cmpR op_ne (pe_callB call_lenK rfl T.n_len bt_len (pa_cons (pv 1) pa_nil)) (pe_callB call_lenK rfl T.n_len bt_len (pa_cons (pv 0) pa_nil)) (nomark _))))) (pss_one (ps_ret pe_bl)) pss_nil)
      (pss_one (ps_ret (pe_callB (call_all rfl) rfl T.n_all bt_all (pa_cons (pe_comp ["times"] [] [] rfl trivial ⟨rfl, by decide +kernel, by decide +kernel, by decide +kernel⟩ (pi_tup (pv 1)) (gk_name (by decide))
          (fun C s₀ H₀ fp pn => (pg_name (i := 0) (show List.Nodup (["times"] : List Str) by decide +kernel) rfl (Or.inl rfl))) (fun C s₀ H₀ fp pn => pf_nil) (fun C s₀ H₀ fp pn => (pe_call G_is_number (hr.mono (by first | decide | omega)) rfl T.m_is_number T.k_is_number T.b_is_number .nil pass0 (pa_cons (pv 0) (pa_cons pe_int (pa_cons (pe_const rfl T.c_GREATEST_TIMES) pa_nil)))))) pa_nil))))), ?_⟩
    rcases h with ⟨b, xs, rfl, hb, hk, hl, k⟩ | ⟨h, k⟩
    · refine ⟨_, rfl, _, _, true, _, rfl, .tup hb, rfl, _, rfl, iteN (by exact Bool.false_ne_true) ?_⟩
      refine ⟨_, rfl, b, _, rfl, .inr (SqT.of hb), _, rfl, a, _, rfl, .inr hS.sq, rfl, _, rfl, ?_⟩
      by_cases hlen : xs.length = ns.length
      · refine iteN (by rw [decide_eq_true (by rw [List.length_map, hlen])]; exact Bool.false_ne_true) ?_
        refine ⟨_, rfl, b, rfl, ⟨_, SqT.of hb⟩, comp_tup (xs := xs) (fun i ys H2 => Same H H2 ∧ ys = (xs.take i).map fun v => V.bl (numB v 0 2000)) ⟨Same.refl _, rfl⟩ (fun i ys H2 _ ⟨s2, _⟩ => SqT.of (s2 _ _ hb)) ?_ ?_⟩
        · rintro i x ys H2 hi hx ⟨s2, rfl⟩
          refine ⟨_, rfl, x, 0, 2000, rfl, (hk x (List.mem_of_getElem? hx)).same s2, small1000 ?_, CN.mk hi ⟨s2, ?_⟩⟩
          · rw [List.length_map, List.length_take]; omega
          · rw [List.take_add_one, hx, List.map_append]; rfl
        · rintro ys H2 ⟨s2, rfl⟩ q hq
          rw [List.take_length]
          refine ⟨q, xs.map fun v => numB v 0 2000, rfl, .inl (SqL.of (upd_same.trans (by rw [List.map_map]; rfl))), ?_⟩
          have hall : (xs.map fun v => numB v 0 2000).all id = xs.all (fun v => numB v 0 2000) := by rw [List.all_map]; rfl
          have := k _ (s2.trans (Same.upd (o := .lst (xs.map fun v => V.bl (numB v 0 2000))) hq))
          rw [wayV, decide_eq_true hlen, Bool.true_and] at this
          rw [hall]; exact this
      · refine iteP ?_ ?_
        · rw [decide_eq_false (fun z => hlen ?_)]
          · rfl
          · have := V.int.inj z
            rw [List.length_map] at this
            omega
        · have := k _ (Same.refl _)
          rw [wayV, decide_eq_false hlen, Bool.false_and] at this
          exact this
    · rcases h with rfl | ⟨b, rfl⟩ | ⟨i, rfl⟩ | ⟨x, rfl⟩ | ⟨a, xs, rfl, e⟩
      · exact ⟨_, rfl, _, _, false, _, rfl, .non, rfl, _, rfl, iteP rfl (iteP rfl k)⟩
      · exact ⟨_, rfl, _, _, false, _, rfl, .bl b, rfl, _, rfl, iteP rfl (iteP rfl k)⟩
      · exact ⟨_, rfl, _, _, false, _, rfl, .int i, rfl, _, rfl, iteP rfl (iteP rfl k)⟩
      · exact ⟨_, rfl, _, _, false, _, rfl, .str x, rfl, _, rfl, iteP rfl (iteP rfl k)⟩
      · exact ⟨_, rfl, _, _, false, _, rfl, .lst e, rfl, _, rfl, iteP rfl (iteP rfl k)⟩
theorem sc_sum_of : FnScope ["system", "way"] ["system", "way"] (defScope s_sum_of) := ⟨rfl, rfl, rfl, by decide +kernel, rfl, by decide +kernel, by decide +kernel⟩
def sp_sum_of (K : PySem.W.Frag) (t : Adr) : Sp := fun vs H Q E => ∃ (a : Addr) (ns : List Int) (v : V), vs = [.ref a, v] ∧ Sy H a ns ∧ TM.IsSys ns ∧ ((∃ b ts, v = .ref b ∧ Sy H b ts ∧ ts.length = ns.length ∧ (∀ z ∈ ts, 0 ≤ z ∧ z ≤ 2000) ∧ ∀ H', Same H H' → Q (.int ((ns.zip ts).map fun q => q.1 * q.2).sum) H') ∨
  (((∃ b xs, v = .ref b ∧ H b = some (.tup xs) ∧ (∀ x ∈ xs, Kn H x) ∧ xs.length ≤ 900 ∧ wayV ns xs = false) ∨ (v = .non ∨ (∃ b, v = .bl b) ∨ (∃ i, v = .int i) ∨ (∃ x, v = .str x) ∨ ∃ a xs, v = .ref a ∧ H a = some (.lst xs))) ∧ ∀ H', Same H H' → E (.ref t.c_BadWay) none H'))
theorem wayV_ok {ns ts : List Int} (h : ts.length = ns.length) (hz : ∀ z ∈ ts, 0 ≤ z ∧ z ≤ 2000) : wayV ns (ts.map V.int) = true := by
  unfold wayV
  rw [List.length_map, decide_eq_true h, Bool.true_and, List.all_eq_true]
  intro x hx
  obtain ⟨z, hz', rfl⟩ := List.mem_map.mp hx
  exact num_ok (hz z hz').1 (hz z hz').2
theorem ok_sum_of (T : Txt K mg t) : FnOk P w K mg base (CX1 P w base) 4 t.f_sum_of t.d_sum_of ["system", "way"] (sp_sum_of K t) := by
  have G_checked := ok_checked (P := P) (w := w) (base := base) T
  have G_is_way := ok_is_way (P := P) (w := w) (base := base) T
  have S := sc_sum_of
  refine T.F_sum_of.okX S (fun vs H Q E h => ?_) (fun cdv A outer s H vs Q E hr h => ?_)
  · obtain ⟨a, ns, v, rfl, _⟩ := h; rfl
  · obtain ⟨a, ns, v, rfl, hS, hY, h⟩ := h
    refine ⟨_, (pss_cons (ps_expr (pe_call G_checked (hr.mono (by first | decide | omega)) rfl T.m_checked T.k_checked T.b_checked .nil passX (pa_cons (pv 0) pa_nil)))
      (pss_cons (ps_if (pt_not (pt_val (pe_call G_is_way (hr.mono (by first | decide | omega)) rfl T.m_is_way T.k_is_way T.b_is_way .nil pass0 (pa_cons (pv 0) (pa_cons (pv 1) pa_nil))))) (pss_one (ps_raise raisesX rfl rfl T.mc_BadWay T.ei_BadWay pe_str)) pss_nil)
      (pss_one (PS.nox (ps_ret (pe_callB (call_sum rfl) rfl T.n_sum bt_sum (pa_cons (pe_comp ["coin", "times"] [] [] rfl trivial ⟨rfl, by decide +kernel, by decide +kernel, by decide +kernel⟩ (pi_zip rfl T.n_zip (pa_cons (pv 0) (pa_cons (pv 1) pa_nil))) (gk_tup (gk_two (by decide) (by decide)))
          (fun C s₀ H₀ fp pn => (pg_tup (n := 2) rfl (pgs_cons (pg_name (i := 0) (show List.Nodup (["coin", "times"] : List Str) by decide +kernel) rfl (Or.inl rfl)) (pgs_cons (pg_name (i := 1) (show List.Nodup (["coin", "times"] : List Str) by decide +kernel) rfl (Or.inl rfl)) pgs_nil)))) (fun C s₀ H₀ fp pn => pf_nil) (fun C s₀ H₀ fp pn => (pe_op op_mul (pv 0) (pv 1)))) pa_nil))))))), ?_⟩
    refine ⟨_, rfl, _, rfl, .inl ⟨a, ns, rfl, hS, hY, fun H2 s2 => ?_⟩⟩
    rcases h with ⟨b, ts, rfl, hW, hl, hz, k⟩ | ⟨h, k⟩
    · refine ⟨_, rfl, _, rfl, a, ns, _, rfl, hS.same s2, .inl ⟨b, _, rfl, hW.same s2, fun x hx => ?_, by rw [List.length_map]; have := hY.len; omega, fun H3 s3 => ⟨_, rfl, ?_⟩⟩⟩
      · obtain ⟨c, _, rfl⟩ := List.mem_map.mp hx; exact .int c
      refine iteN (by rw [wayV_ok hl hz]; exact Bool.false_ne_true) ?_
      have s03 := s2.trans s3
      refine ⟨_, rfl, _, rfl, a, b, _, _, rfl, (hS.same s03).sq, (hW.same s03).sq, comp_zip (xs := ns.map V.int) (zs := ts.map V.int)
        (fun i ys H4 => Same H3 H4 ∧ ys = ((ns.zip ts).take i).map fun q => V.int (q.1 * q.2)) ⟨Same.refl _, rfl⟩ (fun i ys H4 _ ⟨s4, _⟩ => ⟨((hS.same s03).same s4).sq, ((hW.same s03).same s4).sq⟩) ?_ ?_⟩
      · rintro i x z q ys H4 hx hz' hq ⟨s4, rfl⟩
        obtain ⟨x', rfl, hx'⟩ := map_get hx
        obtain ⟨z', rfl, hz''⟩ := map_get hz'
        have hz2 := zip_get hx' hz''
        have hp := hY.pos x' (List.mem_of_getElem? hx')
        have h8 := hY.len
        have hi : i < min (ns.map V.int).length (ts.map V.int).length := by
          have h1 := (List.getElem?_eq_some_iff.mp hx').1
          have h2 := (List.getElem?_eq_some_iff.mp hz'').1
          rw [List.length_map, List.length_map]
          omega
        refine ⟨q, _, rfl, SqT.of upd_same, rfl, _, _, rfl, _, _, rfl, rfl, ?_⟩
        refine ⟨_, rfl, _, rfl, _, _, rfl, rfl, .inl ⟨by omega, by omega⟩, small1000 ?_, CN.mk hi ⟨s4.trans (Same.upd hq), ?_⟩⟩
        · rw [List.length_map, List.length_take, List.length_zip]; omega
        · rw [take_map_succ _ hz2]
      · rintro ys H4 ⟨s4, rfl⟩ q hq
        refine ⟨q, (ns.zip ts).map fun z => z.1 * z.2, rfl, .inl (SqL.of (upd_same.trans ?_)), ?_⟩
        · congr 2
          rw [List.map_map, List.length_map, List.length_map, ← List.length_zip, List.take_length]
          rfl
        · exact k _ ((s03.trans s4).trans (Same.upd hq))
    · rcases h with ⟨b, xs, rfl, hb, hk, hl, e⟩ | h
      · refine ⟨_, rfl, _, rfl, a, ns, _, rfl, hS.same s2, .inl ⟨b, xs, rfl, s2 _ _ hb, fun x hx => (hk x hx).same s2, hl, fun H3 s3 => ⟨_, rfl, ?_⟩⟩⟩
        exact iteP (by rw [e]; rfl) ⟨rfl, k H3 (s2.trans s3)⟩
      · refine ⟨_, rfl, _, rfl, a, ns, _, rfl, hS.same s2, .inr ⟨?_, _, rfl, iteP rfl ⟨rfl, k H2 s2⟩⟩⟩
        rcases h with h | h | h | h | ⟨c, xs, rfl, e⟩
        · exact .inl h
        · exact .inr (.inl h)
        · exact .inr (.inr (.inl h))
        · exact .inr (.inr (.inr (.inl h)))
        · exact .inr (.inr (.inr (.inr ⟨c, xs, rfl, s2 _ _ e⟩)))
theorem sc__law_deed : FnScope ["_law_way", "_law_system_here", "_law_number"] ["_law_way", "_law_system_here", "_law_number"] (defScope s__law_deed) := ⟨rfl, rfl, rfl, by decide +kernel, rfl, by decide +kernel, by decide +kernel⟩
def WayBad (H : Hp) (ns : List Int) (v : V) : Prop := (∃ b xs, v = .ref b ∧ H b = some (.tup xs) ∧ (∀ x ∈ xs, Kn H x) ∧ xs.length ≤ 900 ∧ wayV ns xs = false) ∨ (v = .non ∨ (∃ b, v = .bl b) ∨ (∃ i, v = .int i) ∨ (∃ x, v = .str x) ∨ ∃ a xs, v = .ref a ∧ H a = some (.lst xs))
def sp__law_deed (K : PySem.W.Frag) (t : Adr) : Sp := fun vs H Q E => ∃ (w : Int) (a : Addr) (ns : List Int) (v : V), vs = [.int w, .ref a, v] ∧ Sy H a ns ∧ TM.IsSys ns ∧ ((0 ≤ w ∧ w ≤ 4 ∧ Kn H v ∧ numB v 0 2000 = false ∧ ∀ H', Same H H' → E (.ref t.c_BadSum) none H') ∨ (5 ≤ w ∧ w ≤ 6 ∧ Kn H v ∧ numB v 0 400 = false ∧ ∀ H', Same H H' → E (.ref t.c_BadSum) none H') ∨ (w = 7 ∧ WayBad H ns v ∧ ∀ H', Same H H' → E (.ref t.c_BadWay) none H'))
theorem ok__law_deed (T : Txt K mg t) : FnOk P w K mg base (CX1 P w base) 7 t.f__law_deed t.d__law_deed ["_law_way", "_law_system_here", "_law_number"] (sp__law_deed K t) := by
  have G_by_fewest := ok_by_fewest (P := P) (w := w) (base := base) T
  have G_by_greatest := ok_by_greatest (P := P) (w := w) (base := base) T
  have G_count_ways := ok_count_ways (P := P) (w := w) (base := base) T
  have G_fewest := ok_fewest (P := P) (w := w) (base := base) T
  have G_excess := ok_excess (P := P) (w := w) (base := base) T
  have G_handed := ok_handed (P := P) (w := w) (base := base) T
  have G_fewest_handed := ok_fewest_handed (P := P) (w := w) (base := base) T
  have G_sum_of := ok_sum_of (P := P) (w := w) (base := base) T
  have S := sc__law_deed
  refine T.F__law_deed.okX S (fun vs H Q E h => ?_) (fun cdv A outer s H vs Q E hr h => ?_)
  · obtain ⟨w, a, ns, v, rfl, _⟩ := h; rfl
  · obtain ⟨w', a, ns, v, rfl, hS, hY, h⟩ := h
    refine ⟨_, (pss_cons (ps_if (pt_cmpR op_eq (pv 0) pe_int (nomark _)) (pss_one (ps_ret (pe_call G_fewest (hr.mono (by first | decide | omega)) rfl T.m_fewest T.k_fewest T.b_fewest .nil passX (pa_cons (pv 1) (pa_cons (pv 2) pa_nil))))) pss_nil)
      (pss_cons (ps_if (pt_cmpR op_eq (pv 0) pe_int (nomark _)) (pss_one (ps_ret (pe_call G_by_greatest (hr.mono (by first | decide | omega)) rfl T.m_by_greatest T.k_by_greatest T.b_by_greatest .nil passX (pa_cons (pv 1) (pa_cons (pv 2) pa_nil))))) pss_nil)
      (pss_cons (ps_if (pt_cmpR op_eq (pv 0) pe_int (nomark _)) (pss_one (ps_ret (pe_call G_by_fewest (hr.mono (by first | decide | omega)) rfl T.m_by_fewest T.k_by_fewest T.b_by_fewest .nil passX (pa_cons (pv 1) (pa_cons (pv 2) pa_nil))))) pss_nil)
      (pss_cons (ps_if (pt_cmpR op_eq (pv 0) pe_int (nomark _)) (pss_one (ps_ret (pe_call G_count_ways (hr.mono (by first | decide | omega)) rfl T.m_count_ways T.k_count_ways T.b_count_ways .nil passX (pa_cons (pv 1) (pa_cons (pv 2) pa_nil))))) pss_nil)
      (pss_cons (ps_if (pt_cmpR op_eq (pv 0) pe_int (nomark _)) (pss_one (ps_ret (pe_call G_excess (hr.mono (by first | decide | omega)) rfl T.m_excess T.k_excess T.b_excess .nil passX (pa_cons (pv 1) (pa_cons (pv 2) pa_nil))))) pss_nil)
      (pss_cons (ps_if (pt_cmpR op_eq (pv 0) pe_int (nomark _)) (pss_one (ps_ret (pe_call G_handed (hr.mono (by first | decide | omega)) rfl T.m_handed T.k_handed T.b_handed .nil passX (pa_cons (pv 1) (pa_cons (pv 2) pa_nil))))) pss_nil)
      (pss_cons (ps_if (pt_cmpR op_eq (pv 0) pe_int (nomark _)) (pss_one (ps_ret (pe_call G_fewest_handed (hr.mono (by first | decide | omega)) rfl T.m_fewest_handed T.k_fewest_handed T.b_fewest_handed .nil passX (pa_cons (pv 1) (pa_cons (pv 2) pa_nil))))) pss_nil)
      (pss_one (ps_ret (pe_call G_sum_of (hr.mono (by first | decide | omega)) rfl T.m_sum_of T.k_sum_of T.b_sum_of .nil passX (pa_cons (pv 1) (pa_cons (pv 2) pa_nil)))))))))))), ?_⟩
    rcases h with ⟨w0, w4, hv, hb, k⟩ | ⟨w5, w6, hv, hb, k⟩ | ⟨rfl, hb, k⟩
    · have hc : w' = 0 ∨ w' = 1 ∨ w' = 2 ∨ w' = 3 ∨ w' = 4 := by omega
      rcases hc with rfl | rfl | rfl | rfl | rfl
      · exact ⟨_, rfl, rfl, _, rfl, iteP rfl ⟨_, rfl, _, rfl, a, ns, v, rfl, hS, hY, hv, .inl ⟨hb, k⟩⟩⟩
      · exact ⟨_, rfl, rfl, _, rfl, iteN (by decide) ⟨_, rfl, rfl, _, rfl, iteP rfl ⟨_, rfl, _, rfl, a, ns, v, rfl, hS, hY, hv, hb, k⟩⟩⟩
      · exact ⟨_, rfl, rfl, _, rfl, iteN (by decide) ⟨_, rfl, rfl, _, rfl, iteN (by decide) ⟨_, rfl, rfl, _, rfl, iteP rfl ⟨_, rfl, _, rfl, a, ns, v, rfl, hS, hY, hv, hb, k⟩⟩⟩⟩
      · exact ⟨_, rfl, rfl, _, rfl, iteN (by decide) ⟨_, rfl, rfl, _, rfl, iteN (by decide) ⟨_, rfl, rfl, _, rfl, iteN (by decide) ⟨_, rfl, rfl, _, rfl, iteP rfl ⟨_, rfl, _, rfl, a, ns, v, rfl, hS, hY, hv, hb, k⟩⟩⟩⟩⟩
      · exact ⟨_, rfl, rfl, _, rfl, iteN (by decide) ⟨_, rfl, rfl, _, rfl, iteN (by decide) ⟨_, rfl, rfl, _, rfl, iteN (by decide) ⟨_, rfl, rfl, _, rfl, iteN (by decide) ⟨_, rfl, rfl, _, rfl, iteP rfl ⟨_, rfl, _, rfl, a, ns, v, rfl, hS, hY, hv, hb, k⟩⟩⟩⟩⟩⟩
    · have hc : w' = 5 ∨ w' = 6 := by omega
      rcases hc with rfl | rfl
      · exact ⟨_, rfl, rfl, _, rfl, iteN (by decide) ⟨_, rfl, rfl, _, rfl, iteN (by decide) ⟨_, rfl, rfl, _, rfl, iteN (by decide) ⟨_, rfl, rfl, _, rfl, iteN (by decide) ⟨_, rfl, rfl, _, rfl, iteN (by decide) ⟨_, rfl, rfl, _, rfl, iteP rfl ⟨_, rfl, _, rfl, a, ns, v, rfl, hS, hY, hv, .inl ⟨hb, k⟩⟩⟩⟩⟩⟩⟩⟩
      · exact ⟨_, rfl, rfl, _, rfl, iteN (by decide) ⟨_, rfl, rfl, _, rfl, iteN (by decide) ⟨_, rfl, rfl, _, rfl, iteN (by decide) ⟨_, rfl, rfl, _, rfl, iteN (by decide) ⟨_, rfl, rfl, _, rfl, iteN (by decide) ⟨_, rfl, rfl, _, rfl, iteN (by decide) ⟨_, rfl, rfl, _, rfl, iteP rfl ⟨_, rfl, _, rfl, a, ns, v, rfl, hS, hY, hv, hb, k⟩⟩⟩⟩⟩⟩⟩⟩
    · exact ⟨_, rfl, rfl, _, rfl, iteN (by decide) ⟨_, rfl, rfl, _, rfl, iteN (by decide) ⟨_, rfl, rfl, _, rfl, iteN (by decide) ⟨_, rfl, rfl, _, rfl, iteN (by decide) ⟨_, rfl, rfl, _, rfl, iteN (by decide) ⟨_, rfl, rfl, _, rfl, iteN (by decide) ⟨_, rfl, rfl, _, rfl, iteN (by decide) ⟨_, rfl, _, rfl, a, ns, v, rfl, hS, hY, .inr ⟨hb, k⟩⟩⟩⟩⟩⟩⟩⟩⟩
theorem sc__law_told : FnScope ["_law_way", "_law_system_here", "_law_number", "e"] ["_law_way", "_law_system_here", "_law_number"] (defScope s__law_told) := ⟨rfl, rfl, rfl, by decide +kernel, rfl, by decide +kernel, by decide +kernel⟩
def sp__law_told (K : PySem.W.Frag) (t : Adr) : Sp := fun vs H Q E => ∃ (w : Int) (a : Addr) (ns : List Int) (v : V), vs = [.int w, .ref a, v] ∧ Sy H a ns ∧ TM.IsSys ns ∧
  ((((0 ≤ w ∧ w ≤ 4 ∧ Kn H v ∧ numB v 0 2000 = false) ∨ (5 ≤ w ∧ w ≤ 6 ∧ Kn H v ∧ numB v 0 400 = false)) ∧ ∀ (p : Addr) H', Same H H' → H' p = some (.lst [.bl true, .bl false, .bl true]) → Q (.ref p) H') ∨
   (w = 7 ∧ WayBad H ns v ∧ ∀ (p : Addr) H', Same H H' → H' p = some (.lst [.bl false, .bl true, .bl true]) → Q (.ref p) H'))
theorem ok__law_told (T : Txt K mg t) : FnOk P w K mg base CX0 8 t.f__law_told t.d__law_told ["_law_way", "_law_system_here", "_law_number"] (sp__law_told K t) := by
  have G__law_deed := ok__law_deed (P := P) (w := w) (base := base) T
  have S := sc__law_told
  refine T.F__law_told.ok S (fun vs H Q E h => ?_) (fun cdv A outer s H vs Q E hr h => ?_)
  · obtain ⟨w, a, ns, v, rfl, _⟩ := h; rfl
  · obtain ⟨w', a, ns, v, rfl, hS, hY, h⟩ := h
    rcases h with ⟨hw, k⟩ | ⟨rfl, hw, k⟩
    · obtain ⟨EX, hEX⟩ : ∃ EX : XK, EX = fun cls _ H' => cls = .ref t.c_BadSum ∧ Same H H' := ⟨_, rfl⟩
      refine ⟨_, (pss_cons (ps_try (E := EX) (i := 3) S.nd rfl rfl rfl rfl rfl T.mc_TillError
      (fun pins => (pss_one (ps_expr (pe_call G__law_deed (hr.mono (by first | decide | omega)) rfl T.m__law_deed T.k__law_deed T.b__law_deed .nil (passC rfl rfl rfl) (pa_cons (pv 0) (pa_cons (pv 1) (pa_cons (pv 2) pa_nil)))))))
      (fun pins ea oe cls hcl => (pss_one (ps_ret (pe_lst (pa_cons (pe_callB (show CallR _ _ (rIsE K ea cls) from call_isE hcl) rfl T.n_isinstance bt_isinstance (pa_cons (pv 3) (pa_cons (pe_glob (v := V.ref t.c_BadSum) rfl T.mc_BadSum rfl) pa_nil))) (pa_cons (pe_callB (show CallR _ _ (rIsE K ea cls) from call_isE hcl) rfl T.n_isinstance bt_isinstance (pa_cons (pv 3) (pa_cons (pe_glob (v := V.ref t.c_BadWay) rfl T.mc_BadWay rfl) pa_nil))) (pa_cons (pe_callB (show CallR _ _ (rIsE K ea cls) from call_isE hcl) rfl T.n_isinstance bt_isinstance (pa_cons (pv 3) (pa_cons (pe_tyn rfl T.n_ValueError bt_ValueError) pa_nil))) pa_nil))))))))
      (pss_one (ps_ret (pe_lst pa_nil)))), ?_⟩
      have hE' : ∀ H', Same H H' → EX (.ref t.c_BadSum) none H' := fun H' s' => by rw [hEX]; exact ⟨rfl, s'⟩
      refine ⟨?_, fun cls H' σ' hE hlen => ?_⟩
      · refine ⟨_, rfl, _, rfl, _, rfl, w', a, ns, v, rfl, hS, hY, ?_⟩
        rcases hw with ⟨a1, a2, a3, a4⟩ | ⟨a1, a2, a3, a4⟩
        · exact .inl ⟨a1, a2, a3, a4, hE'⟩
        · exact .inr (.inl ⟨a1, a2, a3, a4, hE'⟩)
      · rw [hEX] at hE
        obtain ⟨rfl, s'⟩ := hE
        refine ⟨T.ex_BadSum, fun ea hne => ?_⟩
        have hl : 3 < σ'.length := by rw [hlen]; show 3 < 4; decide
        have ge : (σ'.set 3 (some (V.ref ea)))[3]? = some (some (V.ref ea)) := List.getElem?_set_self hl
        refine ⟨_, ge, _, _, _, true, rfl, .inr ⟨_, rfl, rfl⟩, rfl, cd_BadSum T, ec_BadSum T, T.ki_BadSum_BadSum, ?_⟩
        refine ⟨_, ge, _, _, _, false, rfl, .inr ⟨_, rfl, rfl⟩, rfl, cd_BadSum T, ec_BadSum T, T.ki_BadSum_BadWay, ?_⟩
        refine ⟨_, ge, _, _, _, true, rfl, .inl ⟨rfl, rfl⟩, rfl, cd_BadSum T, ec_BadSum T, T.x5_BadSum, ?_⟩
        exact ⟨Nat.le_of_lt (small1000 (by show 3 ≤ 1000; decide)), fun p hp => k p _ (s'.trans (Same.upd hp)) upd_same⟩
    · obtain ⟨EX, hEX⟩ : ∃ EX : XK, EX = fun cls _ H' => cls = .ref t.c_BadWay ∧ Same H H' := ⟨_, rfl⟩
      refine ⟨_, (pss_cons (ps_try (E := EX) (i := 3) S.nd rfl rfl rfl rfl rfl T.mc_TillError
      (fun pins => (pss_one (ps_expr (pe_call G__law_deed (hr.mono (by first | decide | omega)) rfl T.m__law_deed T.k__law_deed T.b__law_deed .nil (passC rfl rfl rfl) (pa_cons (pv 0) (pa_cons (pv 1) (pa_cons (pv 2) pa_nil)))))))
      (fun pins ea oe cls hcl => (pss_one (ps_ret (pe_lst (pa_cons (pe_callB (show CallR _ _ (rIsE K ea cls) from call_isE hcl) rfl T.n_isinstance bt_isinstance (pa_cons (pv 3) (pa_cons (pe_glob (v := V.ref t.c_BadSum) rfl T.mc_BadSum rfl) pa_nil))) (pa_cons (pe_callB (show CallR _ _ (rIsE K ea cls) from call_isE hcl) rfl T.n_isinstance bt_isinstance (pa_cons (pv 3) (pa_cons (pe_glob (v := V.ref t.c_BadWay) rfl T.mc_BadWay rfl) pa_nil))) (pa_cons (pe_callB (show CallR _ _ (rIsE K ea cls) from call_isE hcl) rfl T.n_isinstance bt_isinstance (pa_cons (pv 3) (pa_cons (pe_tyn rfl T.n_ValueError bt_ValueError) pa_nil))) pa_nil))))))))
      (pss_one (ps_ret (pe_lst pa_nil)))), ?_⟩
      have hE' : ∀ H', Same H H' → EX (.ref t.c_BadWay) none H' := fun H' s' => by rw [hEX]; exact ⟨rfl, s'⟩
      refine ⟨?_, fun cls H' σ' hE hlen => ?_⟩
      · exact ⟨_, rfl, _, rfl, _, rfl, 7, a, ns, v, rfl, hS, hY, .inr (.inr ⟨rfl, hw, hE'⟩)⟩
      · rw [hEX] at hE
        obtain ⟨rfl, s'⟩ := hE
        refine ⟨T.ex_BadWay, fun ea hne => ?_⟩
        have hl : 3 < σ'.length := by rw [hlen]; show 3 < 4; decide
        have ge : (σ'.set 3 (some (V.ref ea)))[3]? = some (some (V.ref ea)) := List.getElem?_set_self hl
        refine ⟨_, ge, _, _, _, false, rfl, .inr ⟨_, rfl, rfl⟩, rfl, cd_BadWay T, ec_BadWay T, T.ki_BadWay_BadSum, ?_⟩
        refine ⟨_, ge, _, _, _, true, rfl, .inr ⟨_, rfl, rfl⟩, rfl, cd_BadWay T, ec_BadWay T, T.ki_BadWay_BadWay, ?_⟩
        refine ⟨_, ge, _, _, _, true, rfl, .inl ⟨rfl, rfl⟩, rfl, cd_BadWay T, ec_BadWay T, T.x5_BadWay, ?_⟩
        exact ⟨Nat.le_of_lt (small1000 (by show 3 ≤ 1000; decide)), fun p hp => k p _ (s'.trans (Same.upd hp)) upd_same⟩
theorem sc_law : FnScope ["_law_script", "_law_system_here", "_law_odd", "_law_way", "_law_most", "_law_good", "_law_bad"] ["_law_script"] (defScope s_law) := ⟨rfl, rfl, rfl, by decide +kernel, rfl, by decide +kernel, by decide +kernel⟩
theorem num_no {n b : Int} (h : b < n) : numB (.int n) 0 b = false := by
  show (decide (0 ≤ n) && decide (n ≤ b)) = false
  rw [decide_eq_false (show ¬ n ≤ b by omega), Bool.and_false]
theorem sys1 : TM.IsSys [1] := ⟨rfl, by decide, by decide, by decide⟩
theorem fw_one : ∀ n : Nat, TM.fw [1] (n : Int) = n
  | 0 => rfl
  | n + 1 => by
    obtain ⟨c, hc, _, e⟩ := TM.fw_ex sys1.w (n := ((n + 1 : Nat) : Int)) (by omega)
    have : c = 1 := by simpa using hc
    subst this
    rw [e, show ((n + 1 : Nat) : Int) - 1 = (n : Int) by omega, fw_one n]
    omega
theorem fw_2000 : TM.fw [1] 2000 = 2000 := by
  have h := fw_one 2000
  have e : ((2000 : Nat) : Int) = 2000 := rfl
  rw [e] at h
  exact h
theorem zip_last (t m : Int) : ∀ l : List Int, (((l ++ [t]).zip (List.replicate l.length 0 ++ [m])).map fun q => q.1 * q.2).sum = t * m
  | [] => by simp
  | c :: l => by
    rw [List.length_cons, List.replicate_succ, List.cons_append, List.cons_append, List.zip_cons_cons, List.map_cons, List.sum_cons, zip_last t m l]
    simp
theorem cut_rep {z : V} {n : Nat} : cutV (List.replicate (n + 1) z) (some 1) none = List.replicate n z := by
  unfold cutV
  rw [HT.sIx_none, show HT.sIx (List.replicate (n + 1) z).length 0 (some 1) = 1 by rw [List.length_replicate]; exact (HT.sIx_nat (n + 1) 0 1).trans (by omega)]
  rw [List.drop_replicate, List.length_replicate, List.take_replicate]
  congr 1
  omega
theorem way_len {ns : List Int} {xs : List V} (h : xs.length ≠ ns.length) : wayV ns xs = false := by unfold wayV; rw [decide_eq_false h]; rfl
theorem way_num {ns : List Int} {xs : List V} {x : V} (hx : x ∈ xs) (h : numB x 0 2000 = false) : wayV ns xs = false := by
  unfold wayV
  have : xs.all (fun v => numB v 0 2000) = false := by
    cases e : xs.all (fun v => numB v 0 2000) with
    | false => rfl
    | true => rw [List.all_eq_true] at e; rw [e x hx] at h; cases h
  rw [this, Bool.and_false]
theorem hand_one {L : List Int} (h : TM.HandL [1] 400 L) : L = List.replicate 400 1 := by
  obtain ⟨a, b, c, _⟩ := TM.hand_ok sys1.w (by decide) h
  have hc : L.length ≤ 400 := c
  have ones := TM.ones_all (L := L) (fun x hx => by
    rcases a x hx with z | z
    · exact .inl (by simpa using z)
    · exact .inr (by have : -x = 1 := by simpa using z
                     omega)) (by rw [b]; omega)
  have e : L = List.replicate L.length 1 := List.eq_replicate_iff.mpr ⟨rfl, ones⟩
  have hs : L.sum = (L.length : Int) := by
    rw [e]
    generalize L.length = n
    rw [List.length_replicate]
    induction n with
    | zero => rfl
    | succ n ih => rw [List.replicate_succ, List.sum_cons, ih]; omega
  have : L.length = 400 := by omega
  rw [this] at e
  exact e
theorem pos_ones (n : Nat) : TM.posL (List.replicate n 1) = List.replicate n 1 := by
  unfold TM.posL
  rw [List.filter_replicate_of_pos (by decide)]
theorem neg_ones (n : Nat) : TM.negL (List.replicate n 1) = [] := by
  unfold TM.negL
  rw [List.filter_replicate_of_neg (by decide)]; rfl
theorem rep_one (n : Nat) : (List.replicate n [V.int 1]).flatten = (List.replicate n (1 : Int)).map V.int := by
  induction n with
  | zero => rfl
  | succ n ih => rw [List.replicate_succ, List.flatten_cons, ih, List.replicate_succ, List.map_cons]; rfl
theorem pair_shaped (ns : List Int) : SeqAt.shaped (.tuple [.list (dI ns), .list []]) = true := by
  refine shaped_tup ?_ ?_
  · show (PyData.canLayAll0 (dI ns) && _) = true
    rw [canLay_ints]; rfl
  · show max (PyData.depthAll (dI ns) + 1) _ ≤ 63
    rw [depth_ints]; decide
def sp_law (K : PySem.W.Frag) : Sp := fun vs H Q _ => ∃ (a : Addr) (zs : List Int), vs = [.ref a] ∧ SqL K H a (zs.map V.int) ∧ zs.length ≤ 63 ∧ ∀ H', Q (.bl true) H'
theorem ok_law (T : Txt K mg t) : FnOk P w K mg base CX0 9 t.f_law t.d_law ["_law_script"] (sp_law K) := by
  have G__law_cell := ok__law_cell (P := P) (w := w) (base := base) T
  have G__law_system := ok__law_system (P := P) (w := w) (base := base) T
  have G_fewest := ok_fewest (P := P) (w := w) (base := base) T
  have G_handed := ok_handed (P := P) (w := w) (base := base) T
  have G_sum_of := ok_sum_of (P := P) (w := w) (base := base) T
  have G__law_told := ok__law_told (P := P) (w := w) (base := base) T
  have S := sc_law
  refine T.F_law.ok S (fun vs H Q E h => ?_) (fun cdv A outer s H vs Q E hr h => ?_)
  · obtain ⟨a, zs, rfl, _⟩ := h; rfl
  · obtain ⟨a, zs, rfl, hS, hz, k⟩ := h
    refine ⟨_, (pss_cons (ps_set (i := 1) S.nd rfl (Or.inl rfl) (pe_call G__law_system (hr.mono (by first | decide | omega)) rfl T.m__law_system T.k__law_system T.b__law_system .nil pass0 (pa_cons (pv 0) (pa_cons pe_int pa_nil))))
      (pss_cons (ps_set (i := 2) S.nd rfl (Or.inl rfl) (pe_ix ix_list (pe_lst (pa_consP pe_non (pa_consP (pe_un un_neg pe_int) (pa_consP pe_bl (pa_consP pe_str (pa_consP (pe_lst (pa_cons pe_int pa_nil)) (pa_consP (pe_tup (pa_cons pe_int pa_nil)) (pa_consP (pe_op op_sub (pe_un un_neg pe_int) (pe_op op_mod (pe_call G__law_cell (hr.mono (by first | decide | omega)) rfl T.m__law_cell T.k__law_cell T.b__law_cell .nil pass0 (pa_cons (pv 0) (pa_cons pe_int pa_nil))) pe_int)) (pa_consP pe_bl pa_nil rfl) rfl) rfl) rfl) rfl) rfl) rfl) rfl)) (pe_op op_mod (pe_call G__law_cell (hr.mono (by first | decide | omega)) rfl T.m__law_cell T.k__law_cell T.b__law_cell .nil pass0 (pa_cons (pv 0) (pa_cons pe_int pa_nil))) pe_int) (fun _ _ => rfl)))
      (pss_cons (ps_for PassesOwn.never rfl (pi_range1 rfl T.n_range (pa_cons pe_int pa_nil)) (pg_name (i := 3) S.nd rfl (Or.inl rfl))
        (pss_cons (ps_if (pt_cmpR (op_neD hr.units) (pe_call G__law_told (hr.mono (by first | decide | omega)) rfl T.m__law_told T.k__law_told T.b__law_told .nil pass0 (pa_cons (pv 3) (pa_cons (pv 1) (pa_cons (pv 2) pa_nil)))) (pe_lst (pa_cons pe_bl (pa_cons pe_bl (pa_cons pe_bl pa_nil)))) (nomark _)) (pss_one (ps_ret pe_bl)) pss_nil)
      (pss_cons (ps_set (i := 4) S.nd rfl (Or.inl rfl) (pe_ifExp (pt_cmpR op_gt (pv 3) pe_int (nomark _)) pe_int pe_int))
      (pss_one (ps_if (pt_cmpR (op_neD hr.units) (pe_call G__law_told (hr.mono (by first | decide | omega)) rfl T.m__law_told T.k__law_told T.b__law_told .nil pass0 (pa_cons (pv 3) (pa_cons (pv 1) (pa_cons (pe_op op_add (pe_op op_add (pv 4) pe_int) (pe_op op_mod (pe_call G__law_cell (hr.mono (by first | decide | omega)) rfl T.m__law_cell T.k__law_cell T.b__law_cell .nil pass0 (pa_cons (pv 0) (pa_cons pe_int pa_nil))) pe_int)) pa_nil)))) (pe_lst (pa_cons pe_bl (pa_cons pe_bl (pa_cons pe_bl pa_nil)))) (nomark _)) (pss_one (ps_ret pe_bl)) pss_nil)))))
      (pss_cons (ps_set (i := 5) S.nd rfl (Or.inl rfl) (pe_op op_repT (pe_tup (pa_cons pe_int pa_nil)) (pe_callB call_lenK rfl T.n_len bt_len (pa_cons (pv 1) pa_nil))))
      (pss_cons (ps_set (i := 6) S.nd rfl (Or.inl rfl) (pe_lst (pa_consP (pe_callTy call_list_of rfl T.n_list bt_list (pa_cons (pv 5) pa_nil)) (pa_consP pe_non (pa_consP pe_int (pa_consP (pe_op op_catV (pv 5) (pe_tup (pa_cons pe_int pa_nil))) (pa_consP (pe_slice sl_tupU (pv 5) (po_some pe_int) po_none) (pa_consP (pe_op op_catV (pe_slice sl_tupU (pv 5) (po_some pe_int) po_none) (pe_tup (pa_cons (pe_un un_neg pe_int) pa_nil))) (pa_consP (pe_op op_catV (pe_slice sl_tupU (pv 5) (po_some pe_int) po_none) (pe_tup (pa_cons pe_int pa_nil))) (pa_consP (pe_op op_catV (pe_slice sl_tupU (pv 5) (po_some pe_int) po_none) (pe_tup (pa_cons pe_bl pa_nil))) pa_nil rfl) rfl) rfl) rfl) rfl) rfl) rfl) rfl)))
      (pss_cons (ps_set (i := 6) S.nd rfl (Or.inl rfl) (pe_op op_cat (pv 6) (pe_lst (pa_cons (pe_op op_catV (pe_slice sl_tupU (pv 5) (po_some pe_int) po_none) (pe_tup (pa_cons pe_str pa_nil))) (pa_cons (pe_op op_catV (pe_slice sl_tupU (pv 5) (po_some pe_int) po_none) (pe_tup (pa_cons pe_non pa_nil))) (pa_cons (pe_op op_catV (pe_tup (pa_cons pe_bl pa_nil)) (pe_slice sl_tupU (pv 5) (po_some pe_int) po_none)) (pa_cons pe_str pa_nil)))))))
      (pss_cons (ps_if (pt_cmpR (op_neD hr.units) (pe_call G__law_told (hr.mono (by first | decide | omega)) rfl T.m__law_told T.k__law_told T.b__law_told .nil pass0 (pa_cons pe_int (pa_cons (pv 1) (pa_cons (pe_ix ix_list (pv 6) (pe_op op_mod (pe_call G__law_cell (hr.mono (by first | decide | omega)) rfl T.m__law_cell T.k__law_cell T.b__law_cell .nil pass0 (pa_cons (pv 0) (pa_cons pe_int pa_nil))) pe_int) (fun _ _ => rfl)) pa_nil)))) (pe_lst (pa_cons pe_bl (pa_cons pe_bl (pa_cons pe_bl pa_nil)))) (nomark _)) (pss_one (ps_ret pe_bl)) pss_nil)
      (pss_cons (ps_if (PW.pt (pw_or (pt_cmpR op_ne (pe_call G_sum_of (hr.mono (by first | decide | omega)) rfl T.m_sum_of T.k_sum_of T.b_sum_of .nil passN (pa_cons (pv 1) (pa_cons (pe_op op_catV (pe_slice sl_tupU (pv 5) (po_some pe_int) po_none) (pe_tup (pa_cons pe_int pa_nil))) pa_nil))) (pe_op op_mul pe_int (pe_ix ix_tup (pv 1) (pe_un un_neg pe_int) (fun _ _ => rfl))) (nomark _)) (pw_or1 (pt_cmpR op_ne (pe_call G_fewest (hr.mono (by first | decide | omega)) rfl T.m_fewest T.k_fewest T.b_fewest .nil passN (pa_cons (pe_tup (pa_cons pe_int pa_nil)) (pa_cons pe_int pa_nil))) pe_int (nomark _))))) (pss_one (ps_ret pe_bl)) pss_nil)
      (pss_one (ps_ret (pe_cmpR (op_eqD hr.units) (pe_call G_handed (hr.mono (by first | decide | omega)) rfl T.m_handed T.k_handed T.b_handed .nil passN (pa_cons (pe_tup (pa_cons pe_int pa_nil)) (pa_cons pe_int pa_nil))) (pe_tup (pa_cons (pe_op op_rep (pe_lst (pa_cons pe_int pa_nil)) pe_int) (pa_cons (pe_lst pa_nil) pa_nil))) (nomark _)))))))))))), ?_⟩
    have big : ∀ {n : Nat}, n ≤ 1000 → n ≤ sizeLine := fun h => Nat.le_of_lt (small1000 h)
    refine ⟨_, rfl, a, zs, 2, rfl, hS, hz, by decide, fun p ns H1 s1 hY hp => ?_⟩
    have hne : ns ≠ [] := fun z => by have := hY.ne; rw [z] at this; exact absurd this (by decide)
    have h8 := hY.len
    refine ⟨_, rfl, big (by show 1 ≤ 1000; decide), fun l3 hl3 => ?_⟩
    have sA := Same.upd (o := .lst [V.int 3]) hl3
    have hA : upd H1 l3 (.lst [V.int 3]) l3 = some (.lst [V.int 3]) := upd_same
    generalize upd H1 l3 (.lst [V.int 3]) = H2 at sA hA ⊢
    refine ⟨big (by show 1 ≤ 1000; decide), fun t3 ht3 => ?_⟩
    have sB := Same.upd (o := .tup [V.int 3]) ht3
    have hB : upd H2 t3 (.tup [V.int 3]) t3 = some (.tup [V.int 3]) := upd_same
    have hA2 := sB _ _ hA
    generalize upd H2 t3 (.tup [V.int 3]) = H3 at sB hB hA2 ⊢
    have s13 := sA.trans sB
    refine ⟨_, rfl, _, rfl, a, zs, 1, rfl, (s1.trans s13).seq hS, by decide, _, _, rfl, rfl, (show (0 : Int) < 999 by decide), _, _, rfl, rfl, ?_⟩
    refine ⟨big (by show 8 ≤ 1000; decide), fun m hm => ?_⟩
    have m0 := Int.emod_nonneg (cell zs 1) (show (999 : Int) ≠ 0 by decide)
    have e8 : 0 ≤ cell zs 0 % 8 ∧ cell zs 0 % 8 < 8 := ⟨Int.emod_nonneg _ (by decide), Int.emod_lt_of_pos _ (by decide)⟩
    dsimp only at hm ⊢
    generalize cell zs 1 % 999 = N at m0 hm ⊢
    have sE := Same.upd (o := .lst [.non, .int (-1), .bl true, .str "3", .ref l3, .ref t3, .int (-1 - N), .bl false]) hm
    have hm9 : upd H3 m (.lst [.non, .int (-1), .bl true, .str "3", .ref l3, .ref t3, .int (-1 - N), .bl false]) m = some (.lst [.non, .int (-1), .bl true, .str "3", .ref l3, .ref t3, .int (-1 - N), .bl false]) := upd_same
    have hA9 := sE _ _ hA2
    have hB9 := sE _ _ hB
    generalize upd H3 m (.lst [.non, .int (-1), .bl true, .str "3", .ref l3, .ref t3, .int (-1 - N), .bl false]) = HM at sE hm9 hA9 hB9 ⊢
    have s1M := s13.trans sE
    obtain ⟨v, hv, hk, hb⟩ : ∃ v, atI [.non, .int (-1), .bl true, .str "3", .ref l3, .ref t3, .int (-1 - N), .bl false] (cell zs 0 % 8) = some v ∧ Kn HM v ∧ ∀ b : Int, numB v 0 b = false := by
      have hc : cell zs 0 % 8 = 0 ∨ cell zs 0 % 8 = 1 ∨ cell zs 0 % 8 = 2 ∨ cell zs 0 % 8 = 3 ∨ cell zs 0 % 8 = 4 ∨ cell zs 0 % 8 = 5 ∨ cell zs 0 % 8 = 6 ∨ cell zs 0 % 8 = 7 := by omega
      rcases hc with e | e | e | e | e | e | e | e <;> rw [e]
      · exact ⟨_, atI_nat (j := 0) rfl, .non, fun _ => rfl⟩
      · exact ⟨_, atI_nat (j := 1) rfl, .int _, fun _ => rfl⟩
      · exact ⟨_, atI_nat (j := 2) rfl, .bl _, fun _ => rfl⟩
      · exact ⟨_, atI_nat (j := 3) rfl, .str _, fun _ => rfl⟩
      · exact ⟨_, atI_nat (j := 4) rfl, .lst hA9, fun _ => rfl⟩
      · exact ⟨_, atI_nat (j := 5) rfl, .tup hB9, fun _ => rfl⟩
      · refine ⟨_, atI_nat (j := 6) rfl, .int _, fun b => ?_⟩
        show (decide (0 ≤ -1 - N) && decide (-1 - N ≤ b)) = false
        rw [decide_eq_false (show ¬ 0 ≤ -1 - N by omega), Bool.false_and]
      · exact ⟨_, atI_nat (j := 7) rfl, .bl _, fun _ => rfl⟩
    refine ⟨_, rfl, a, zs, 0, rfl, (s1.trans s1M).seq hS, by decide, _, _, rfl, rfl, (show (0 : Int) < 8 by decide), m, _, _, v, rfl, rfl, SqL.of hm9, hv, ?_⟩
    have hpM := hp.same s1M
    have sM := s1.trans s1M
    have bls : ∀ {Hx : Hp} {q u : Addr} {b1 b2 b3 : Bool}, Hx q = some (.lst [.bl b1, .bl b2, .bl b3]) → Dat K Hx (.ref q) (.list [.bool b1, .bool b2, .bool b3]) := fun h => .lst (SqL.of h) (.cons (.bl _) (.cons (.bl _) (.cons (.bl _) .nil)))
    refine ⟨_, rfl, by decide, by decide, for_range (lo := 0) (fun i σ H4 => ∃ v3 v4, σ = [some (.ref a), some (.ref p), some v, v3, v4, none, none] ∧ Same HM H4) ⟨none, none, rfl, Same.refl _⟩ ?_ ?_⟩
    · rintro i σ H4 hi ⟨v3, v4, rfl, s4⟩
      have hi7 : i < 7 := hi
      have told : ∀ (x : V) (Hx : Hp), Same HM Hx → Kn Hx x → (i ≤ 4 → numB x 0 2000 = false) → (5 ≤ i → numB x 0 400 = false) → ((0 ≤ (0 + (i : Int)) ∧ (0 + (i : Int)) ≤ 4 ∧ Kn Hx x ∧ numB x 0 2000 = false) ∨ (5 ≤ (0 + (i : Int)) ∧ (0 + (i : Int)) ≤ 6 ∧ Kn Hx x ∧ numB x 0 400 = false)) := fun x Hx _ kx h1 h2 => by
        by_cases c : i ≤ 4
        · exact .inl ⟨by omega, by omega, kx, h1 c⟩
        · exact .inr ⟨by omega, by omega, kx, h2 (by omega)⟩
      refine ⟨_, rfl, _, rfl, _, rfl, _, p, ns, v, rfl, hpM.same s4, hY, .inl ⟨told v H4 s4 (hk.same s4) (fun _ => hb _) (fun _ => hb _), fun q H5 s5 hq => ?_⟩⟩
      refine ⟨big (by show 3 ≤ 1000; decide), fun u hu => ?_⟩
      have s6 := s5.trans (Same.upd (o := .lst [.bl true, .bl false, .bl true]) hu)
      refine ⟨_, _, .lst (SqL.of (Same.upd hu _ _ hq)) (.cons (.bl true) (.cons (.bl false) (.cons (.bl true) .nil))), .lst (SqL.of upd_same) (.cons (.bl true) (.cons (.bl false) (.cons (.bl true) .nil))), rfl, rfl, _, rfl, iteN (by decide) ?_⟩
      generalize upd H5 u (.lst [.bl true, .bl false, .bl true]) = H6 at s6
      have e99 := Int.emod_nonneg (cell zs 1) (show (99 : Int) ≠ 0 by decide)
      refine ⟨_, rfl, _, _, rfl, rfl, _, rfl, ?_⟩
      by_cases c : (4 : Int) < 0 + (i : Int)
      · refine iteP (decide_eq_true c) ?_
        refine ⟨_, rfl, _, rfl, _, rfl, _, _, rfl, rfl, _, rfl, a, zs, 1, rfl, ((sM.trans s4).trans s6).seq hS, by decide, _, _, rfl, rfl, (show (0 : Int) < 99 by decide), _, _, rfl, rfl, ?_⟩
        refine ⟨_, p, ns, _, rfl, (hpM.same s4).same s6, hY, .inl ⟨told _ H6 (s4.trans s6) (.int _) (fun _ => num_no (by omega)) (fun _ => num_no (by omega)), fun q2 H7 s7 hq2 => ?_⟩⟩
        refine ⟨big (by show 3 ≤ 1000; decide), fun u2 hu2 => ?_⟩
        refine ⟨_, _, .lst (SqL.of (Same.upd hu2 _ _ hq2)) (.cons (.bl true) (.cons (.bl false) (.cons (.bl true) .nil))), .lst (SqL.of upd_same) (.cons (.bl true) (.cons (.bl false) (.cons (.bl true) .nil))), rfl, rfl, _, rfl, iteN (by decide) ?_⟩
        exact ⟨_, _, rfl, ((s4.trans s6).trans s7).trans (Same.upd hu2)⟩
      · refine iteN (fun z => c (of_decide_eq_true z)) ?_
        refine ⟨_, rfl, _, rfl, _, rfl, _, _, rfl, rfl, _, rfl, a, zs, 1, rfl, ((sM.trans s4).trans s6).seq hS, by decide, _, _, rfl, rfl, (show (0 : Int) < 99 by decide), _, _, rfl, rfl, ?_⟩
        refine ⟨_, p, ns, _, rfl, (hpM.same s4).same s6, hY, .inl ⟨told _ H6 (s4.trans s6) (.int _) (fun _ => num_no (by omega)) (fun _ => num_no (by omega)), fun q2 H7 s7 hq2 => ?_⟩⟩
        refine ⟨big (by show 3 ≤ 1000; decide), fun u2 hu2 => ?_⟩
        refine ⟨_, _, .lst (SqL.of (Same.upd hu2 _ _ hq2)) (.cons (.bl true) (.cons (.bl false) (.cons (.bl true) .nil))), .lst (SqL.of upd_same) (.cons (.bl true) (.cons (.bl false) (.cons (.bl true) .nil))), rfl, rfl, _, rfl, iteN (by decide) ?_⟩
        exact ⟨_, _, rfl, ((s4.trans s6).trans s7).trans (Same.upd hu2)⟩
    · rintro σ H4 ⟨v3, v4, rfl, s4⟩
      have hp4 := hpM.same s4
      obtain ⟨k0, hk0⟩ : ∃ k0, ns.length = k0 + 1 := ⟨ns.length - 1, by have := hY.ne; omega⟩
      refine ⟨big (by show 1 ≤ 1000; decide), fun t0 ht0 => ?_⟩
      refine ⟨_, rfl, p, _, rfl, .inr (hp4.same (Same.upd ht0)).sq, t0, _, _, rfl, rfl, upd_same, by rw [List.length_map]; omega, by rw [List.length_map]; omega, fun g H5 s5 hg => ?_⟩
      have s45 := (Same.upd (o := .tup [V.int 0]) ht0).trans s5
      have hg : H5 g = some (.tup (List.replicate (k0 + 1) (V.int 0))) := by rw [hg, List.length_map, Int.toNat_natCast, hk0]
      have S5 : Same H5 H5 := Same.refl _
      refine ⟨_, rfl, g, _, rfl, .inr (SqT.of hg), fun b0 hb0 => ?_⟩
      have S6 := S5.trans (Same.upd (o := .lst (List.replicate (k0 + 1) (V.int 0))) hb0)
      have hb0 : upd H5 b0 (.lst (List.replicate (k0 + 1) (V.int 0))) b0 = some (.lst (List.replicate (k0 + 1) (V.int 0))) := upd_same
      generalize upd H5 b0 (.lst (List.replicate (k0 + 1) (V.int 0))) = H6 at S6 hb0 ⊢
      refine ⟨_, rfl, big (by show 1 ≤ 1000; decide), fun x3 hx3 => ?_⟩
      refine ⟨g, x3, _, _, rfl, rfl, Same.upd hx3 _ _ (S6 _ _ hg), upd_same, big (by rw [List.length_replicate]; show k0 + 1 + 1 ≤ 1000; omega), fun b3 H7 s7 hb3 => ?_⟩
      have T7 := (Same.upd (o := .tup [V.int 0]) hx3).trans s7
      have S7 := S6.trans T7
      refine ⟨_, rfl, _, rfl, g, _, rfl, S7 _ _ hg, fun b4 H8 s8 hb4 => ?_⟩
      rw [cut_rep] at hb4
      have S8 := S7.trans s8
      refine ⟨_, rfl, _, rfl, g, _, rfl, S8 _ _ hg, fun c5 H9 s9 hc5 => ?_⟩
      rw [cut_rep] at hc5
      have S9 := S8.trans s9
      refine ⟨_, rfl, big (by show 1 ≤ 1000; decide), fun x5 hx5 => ?_⟩
      refine ⟨c5, x5, _, _, rfl, rfl, Same.upd hx5 _ _ hc5, upd_same, big (by rw [List.length_replicate]; show k0 + 1 ≤ 1000; omega), fun b5 H10 s10 hb5 => ?_⟩
      have T10 := (s9.trans (Same.upd (o := .tup [V.int (-1)]) hx5)).trans s10
      have S10 := S8.trans T10
      refine ⟨_, rfl, _, rfl, g, _, rfl, S10 _ _ hg, fun c6 H11 s11 hc6 => ?_⟩
      rw [cut_rep] at hc6
      have S11 := S10.trans s11
      refine ⟨big (by show 1 ≤ 1000; decide), fun x6 hx6 => ?_⟩
      refine ⟨c6, x6, _, _, rfl, rfl, Same.upd hx6 _ _ hc6, upd_same, big (by rw [List.length_replicate]; show k0 + 1 ≤ 1000; omega), fun b6 H12 s12 hb6 => ?_⟩
      have T12 := (s11.trans (Same.upd (o := .tup [V.int 2001]) hx6)).trans s12
      have S12 := S10.trans T12
      refine ⟨_, rfl, _, rfl, g, _, rfl, S12 _ _ hg, fun c7 H13 s13 hc7 => ?_⟩
      rw [cut_rep] at hc7
      have S13 := S12.trans s13
      refine ⟨big (by show 1 ≤ 1000; decide), fun x7 hx7 => ?_⟩
      refine ⟨c7, x7, _, _, rfl, rfl, Same.upd hx7 _ _ hc7, upd_same, big (by rw [List.length_replicate]; show k0 + 1 ≤ 1000; omega), fun b7 H14 s14 hb7 => ?_⟩
      have T14 := (s13.trans (Same.upd (o := .tup [V.bl true]) hx7)).trans s14
      have S14 := S12.trans T14
      refine ⟨big (by show 8 ≤ 1000; decide), fun m8 hm8 => ?_⟩
      have S15 := S14.trans (Same.upd (o := .lst [V.ref b0, V.non, V.int 7, V.ref b3, V.ref b4, V.ref b5, V.ref b6, V.ref b7]) hm8)
      have T15 := Same.upd (o := .lst [V.ref b0, V.non, V.int 7, V.ref b3, V.ref b4, V.ref b5, V.ref b6, V.ref b7]) hm8
      have hm8 : upd H14 m8 (.lst [V.ref b0, V.non, V.int 7, V.ref b3, V.ref b4, V.ref b5, V.ref b6, V.ref b7]) m8 = some (.lst [V.ref b0, V.non, V.int 7, V.ref b3, V.ref b4, V.ref b5, V.ref b6, V.ref b7]) := upd_same
      generalize upd H14 m8 (.lst [V.ref b0, V.non, V.int 7, V.ref b3, V.ref b4, V.ref b5, V.ref b6, V.ref b7]) = H15 at S15 T15 hm8 ⊢
      refine ⟨_, rfl, ?_⟩
      refine ⟨_, rfl, _, rfl, g, _, rfl, S15 _ _ hg, fun c8 H16 s16 hc8 => ?_⟩
      rw [cut_rep] at hc8
      have S16 := S15.trans s16
      refine ⟨big (by show 1 ≤ 1000; decide), fun x8 hx8 => ?_⟩
      refine ⟨c8, x8, _, _, rfl, rfl, Same.upd hx8 _ _ hc8, upd_same, big (by rw [List.length_replicate]; show k0 + 1 ≤ 1000; omega), fun b8 H17 s17 hb8 => ?_⟩
      have T17 := (s16.trans (Same.upd (o := .tup [V.str "1"]) hx8)).trans s17
      have S17 := S15.trans T17
      refine ⟨_, rfl, _, rfl, g, _, rfl, S17 _ _ hg, fun c9 H18 s18 hc9 => ?_⟩
      rw [cut_rep] at hc9
      have S18 := S17.trans s18
      refine ⟨big (by show 1 ≤ 1000; decide), fun x9 hx9 => ?_⟩
      refine ⟨c9, x9, _, _, rfl, rfl, Same.upd hx9 _ _ hc9, upd_same, big (by rw [List.length_replicate]; show k0 + 1 ≤ 1000; omega), fun b9 H19 s19 hb9 => ?_⟩
      have T19 := (s18.trans (Same.upd (o := .tup [V.non]) hx9)).trans s19
      have S19 := S17.trans T19
      refine ⟨big (by show 1 ≤ 1000; decide), fun xA hxA => ?_⟩
      refine ⟨_, rfl, _, rfl, g, _, rfl, Same.upd hxA _ _ (S19 _ _ hg), fun cA H20 s20 hcA => ?_⟩
      rw [cut_rep] at hcA
      refine ⟨xA, cA, _, _, rfl, rfl, s20 _ _ upd_same, hcA, big (by rw [List.length_replicate]; show 1 + k0 ≤ 1000; omega), fun bA H21 s21 hbA => ?_⟩
      have T21 := ((Same.upd (o := .tup [V.bl false]) hxA).trans s20).trans s21
      have S21 := S19.trans T21
      refine ⟨big (by show 4 ≤ 1000; decide), fun m4 hm4 => ?_⟩
      have T22 := Same.upd (o := .lst [V.ref b8, V.ref b9, V.ref bA, V.str "0"]) hm4
      have hm4 : upd H21 m4 (.lst [V.ref b8, V.ref b9, V.ref bA, V.str "0"]) m4 = some (.lst [V.ref b8, V.ref b9, V.ref bA, V.str "0"]) := upd_same
      generalize upd H21 m4 (.lst [V.ref b8, V.ref b9, V.ref bA, V.str "0"]) = H22 at T22 hm4 ⊢
      have S22 := S21.trans T22
      have U19 := T21.trans T22
      have U17 := T19.trans U19
      have U15 := T17.trans U17
      have U14 := T15.trans U15
      have U12 := T14.trans U14
      have U10 := T12.trans U12
      have U8 := T10.trans U10
      have U7 := s8.trans U8
      have U6 := T7.trans U7
      refine ⟨m8, m4, _, _, rfl, rfl, U15 _ _ hm8, hm4, big (by show 8 + 4 ≤ 1000; decide), fun mm hmm => ?_⟩
      have TF := Same.upd (o := .lst ([V.ref b0, V.non, V.int 7, V.ref b3, V.ref b4, V.ref b5, V.ref b6, V.ref b7] ++ [V.ref b8, V.ref b9, V.ref bA, V.str "0"])) hmm
      have hmm : upd H22 mm (.lst ([V.ref b0, V.non, V.int 7, V.ref b3, V.ref b4, V.ref b5, V.ref b6, V.ref b7] ++ [V.ref b8, V.ref b9, V.ref bA, V.str "0"])) mm = some (.lst ([V.ref b0, V.non, V.int 7, V.ref b3, V.ref b4, V.ref b5, V.ref b6, V.ref b7] ++ [V.ref b8, V.ref b9, V.ref bA, V.str "0"])) := upd_same
      generalize upd H22 mm (.lst ([V.ref b0, V.non, V.int 7, V.ref b3, V.ref b4, V.ref b5, V.ref b6, V.ref b7] ++ [V.ref b8, V.ref b9, V.ref bA, V.str "0"])) = HF at TF hmm ⊢
      have SF := S22.trans TF
      have sF := (s4.trans s45).trans SF
      have e12 : 0 ≤ cell zs 1 % 12 ∧ cell zs 1 % 12 < 12 := ⟨Int.emod_nonneg _ (by decide), Int.emod_lt_of_pos _ (by decide)⟩
      have kz : ∀ {x y : V} {l : List V}, x ∈ List.replicate k0 (V.int 0) ++ [y] → Kn HF y → Kn HF x := fun h hy => by
        rcases List.mem_append.mp h with z | z
        · rw [List.eq_of_mem_replicate z]; exact .int _
        · rw [List.mem_singleton.mp z]; exact hy
      have lz : ∀ y : V, (List.replicate k0 (V.int 0) ++ [y]).length ≤ 900 := fun y => by rw [List.length_append, List.length_replicate]; show k0 + 1 ≤ 900; omega
      have wz : ∀ {b : Addr} {y : V}, HF b = some (.tup (List.replicate k0 (V.int 0) ++ [y])) → Kn HF y → numB y 0 2000 = false → WayBad HF ns (.ref b) := fun {b y} h hy hn => .inl ⟨b, _, rfl, h, fun x hx => kz (l := []) hx hy, lz y, way_num (x := y) (List.mem_append_right _ (List.mem_singleton.mpr rfl)) hn⟩
      obtain ⟨v, hv, hb⟩ : ∃ v, atI ([V.ref b0, V.non, V.int 7, V.ref b3, V.ref b4, V.ref b5, V.ref b6, V.ref b7] ++ [V.ref b8, V.ref b9, V.ref bA, V.str "0"]) (cell zs 1 % 12) = some v ∧ WayBad HF ns v := by
        have hc : cell zs 1 % 12 = 0 ∨ cell zs 1 % 12 = 1 ∨ cell zs 1 % 12 = 2 ∨ cell zs 1 % 12 = 3 ∨ cell zs 1 % 12 = 4 ∨ cell zs 1 % 12 = 5 ∨ cell zs 1 % 12 = 6 ∨ cell zs 1 % 12 = 7 ∨ cell zs 1 % 12 = 8 ∨ cell zs 1 % 12 = 9 ∨ cell zs 1 % 12 = 10 ∨ cell zs 1 % 12 = 11 := by omega
        rcases hc with e | e | e | e | e | e | e | e | e | e | e | e <;> rw [e]
        · exact ⟨_, atI_nat (j := 0) rfl, .inr (.inr (.inr (.inr (.inr ⟨_, _, rfl, (U6.trans TF) _ _ hb0⟩))))⟩
        · exact ⟨_, atI_nat (j := 1) rfl, .inr (.inl rfl)⟩
        · exact ⟨_, atI_nat (j := 2) rfl, .inr (.inr (.inr (.inl ⟨_, rfl⟩)))⟩
        · refine ⟨_, atI_nat (j := 3) rfl, .inl ⟨_, _, rfl, (U7.trans TF) _ _ hb3, fun x hx => ?_, ?_, way_len ?_⟩⟩
          · rcases List.mem_append.mp hx with z | z
            · rw [List.eq_of_mem_replicate z]; exact .int _
            · rw [List.mem_singleton.mp z]; exact .int _
          · rw [List.length_append, List.length_replicate]; show k0 + 1 + 1 ≤ 900; omega
          · rw [List.length_append, List.length_replicate]; show k0 + 1 + 1 ≠ ns.length; omega
        · refine ⟨_, atI_nat (j := 4) rfl, .inl ⟨_, _, rfl, (U8.trans TF) _ _ hb4, fun x hx => ?_, ?_, way_len ?_⟩⟩
          · rw [List.eq_of_mem_replicate hx]; exact .int _
          · rw [List.length_replicate]; omega
          · rw [List.length_replicate]; omega
        · exact ⟨_, atI_nat (j := 5) rfl, wz ((U10.trans TF) _ _ hb5) (.int _) rfl⟩
        · exact ⟨_, atI_nat (j := 6) rfl, wz ((U12.trans TF) _ _ hb6) (.int _) rfl⟩
        · exact ⟨_, atI_nat (j := 7) rfl, wz ((U14.trans TF) _ _ hb7) (.bl _) rfl⟩
        · exact ⟨_, atI_nat (j := 8) rfl, wz ((U17.trans TF) _ _ hb8) (.str _) rfl⟩
        · exact ⟨_, atI_nat (j := 9) rfl, wz ((U19.trans TF) _ _ hb9) (.non) rfl⟩
        · refine ⟨_, atI_nat (j := 10) rfl, .inl ⟨_, _, rfl, (T22.trans TF) _ _ hbA, fun x hx => ?_, ?_, way_num (x := .bl false) (by simp) rfl⟩⟩
          · rcases List.mem_append.mp hx with z | z
            · rw [List.mem_singleton.mp z]; exact .bl _
            · rw [List.eq_of_mem_replicate z]; exact .int _
          · rw [List.length_append, List.length_replicate]; show 1 + k0 ≤ 900; omega
        · exact ⟨_, atI_nat (j := 11) rfl, .inr (.inr (.inr (.inr (.inl ⟨_, rfl⟩))))⟩
      have hpF := hpM.same sF
      refine ⟨_, rfl, _, rfl, _, rfl, a, zs, 1, rfl, (sM.trans sF).seq hS, by decide, _, _, rfl, rfl, (show (0 : Int) < 12 by decide), mm, _, _, v, rfl, rfl, SqL.of hmm, hv, ?_⟩
      refine ⟨7, p, ns, v, rfl, hpF, hY, .inr ⟨rfl, hb, fun q HA sA hq => ?_⟩⟩
      refine ⟨big (by show 3 ≤ 1000; decide), fun u hu => ?_⟩
      refine ⟨_, _, .lst (SqL.of (Same.upd hu _ _ hq)) (.cons (.bl false) (.cons (.bl true) (.cons (.bl true) .nil))), .lst (SqL.of upd_same) (.cons (.bl false) (.cons (.bl true) (.cons (.bl true) .nil))), rfl, rfl, _, rfl, iteN (by decide) ?_⟩
      have sB := SF.trans (sA.trans (Same.upd (o := .lst [.bl false, .bl true, .bl true]) hu))
      have sB' := sF.trans (sA.trans (Same.upd (o := .lst [.bl false, .bl true, .bl true]) hu))
      generalize upd HA u (.lst [.bl false, .bl true, .bl true]) = HB at sB sB' ⊢
      have hgB := sB _ _ hg
      have hpB := hpM.same sB'
      refine ⟨_, rfl, _, rfl, _, rfl, g, _, rfl, hgB, fun cX HC sC hcX => ?_⟩
      rw [cut_rep] at hcX
      refine ⟨big (by show 1 ≤ 1000; decide), fun xX hxX => ?_⟩
      refine ⟨cX, xX, _, _, rfl, rfl, Same.upd hxX _ _ hcX, upd_same, big (by rw [List.length_replicate]; show k0 + 1 ≤ 1000; omega), fun bX HD sD hbX => ?_⟩
      have tD := (sC.trans (Same.upd (o := .tup [V.int 2000]) hxX)).trans sD
      have hbS : Sy HD bX (List.replicate k0 0 ++ [2000]) := by rw [Sy, hbX, List.map_append, List.map_replicate]; rfl
      have hlen : (List.replicate k0 (0 : Int) ++ [2000]).length = ns.length := by rw [List.length_append, List.length_replicate, hk0]; rfl
      refine ⟨p, ns, _, rfl, hpB.same tD, hY, .inl ⟨bX, _, rfl, hbS, hlen, fun z hz => ?_, fun HE sE => ?_⟩⟩
      · rcases List.mem_append.mp hz with y | y
        · rw [List.eq_of_mem_replicate y]; decide
        · rw [List.mem_singleton.mp y]; decide
      have eSum : ((ns.zip (List.replicate k0 (0 : Int) ++ [2000])).map fun q => q.1 * q.2).sum = 2000 * TM.topC ns := by
        have e1 : ns = ns.take k0 ++ [TM.topC ns] := by
          have h1 := TM.topC_at hY.w
          rw [hk0, Nat.add_sub_cancel] at h1
          have h2 : ns.take (k0 + 1) = ns := List.take_of_length_le (by omega)
          have h3 := List.take_add_one (l := ns) (i := k0)
          rw [h2, h1] at h3
          exact h3
        have e2 : (ns.take k0).length = k0 := by rw [List.length_take]; omega
        have := zip_last (TM.topC ns) 2000 (ns.take k0)
        rw [e2, ← e1] at this
        rw [this]; omega
      have hpE := (hpB.same tD).same sE
      refine ⟨_, rfl, _, rfl, p, _, _, _, rfl, rfl, hpE.sq, top_at hne, _, _, rfl, rfl, .inl ⟨by decide, by decide⟩, rfl, _, rfl, iteN (by rw [eSum, decide_eq_true rfl]; exact Bool.false_ne_true) ?_⟩
      refine ⟨big (by show 1 ≤ 1000; decide), fun t1 ht1 => ?_⟩
      refine ⟨t1, [1], _, rfl, upd_same, sys1, .int _, .inr ⟨2000, rfl, by decide, by decide, fun HG sG => ?_⟩⟩
      have e2000 := fw_2000
      generalize TM.fw [1] 2000 = X at e2000 ⊢
      subst e2000
      refine ⟨rfl, _, rfl, iteN (by exact Bool.false_ne_true) ?_⟩
      refine ⟨big (by show 1 ≤ 1000; decide), fun t4 ht4 => ?_⟩
      refine ⟨t4, [1], _, rfl, upd_same, sys1, .int _, .inr ⟨400, rfl, by decide, by decide, fun L hL => ?_, fun L gs bs z q2 r2 HI hL sI hq0 hr0 hqr hz hq2 hr2 gp gs1 bp bs1 => ?_⟩⟩
      · rw [hand_one hL, pos_ones, neg_ones]
        refine ⟨⟨by rw [List.length_replicate]; decide, .inr (.inl (List.pairwise_replicate.mpr (.inr (Int.le_refl _))))⟩, ⟨by decide, .inl (by decide)⟩⟩
      rw [hand_one hL, pos_ones] at gp
      rw [hand_one hL, neg_ones] at bp
      have eg : gs = List.replicate 400 1 := List.perm_replicate.mp gp
      have eb : bs = [] := List.perm_nil.mp bp
      subst eg eb
      refine ⟨big (by show 1 ≤ 1000; decide), fun l1 hl1 => ?_⟩
      refine ⟨l1, 400, _, rfl, rfl, upd_same, by decide, by decide, big (by show 1 * 400 ≤ 1000; decide), fun l2 hl2 => ?_⟩
      have V1 := (Same.upd (o := .lst [V.int 1]) hl1).trans (Same.upd (o := .lst (List.replicate (400 : Int).toNat [V.int 1]).flatten) hl2)
      have h2 : upd (upd HI l1 (.lst [V.int 1])) l2 (.lst (List.replicate (400 : Int).toNat [V.int 1]).flatten) l2 = some (.lst ((List.replicate 400 (1 : Int)).map V.int)) := by rw [upd_same, show (400 : Int).toNat = 400 from rfl, rep_one]
      generalize upd (upd HI l1 (.lst [V.int 1])) l2 (.lst (List.replicate (400 : Int).toNat [V.int 1]).flatten) = HJ at V1 h2 ⊢
      refine ⟨Nat.zero_le _, fun l5 hl5 => ⟨big (by show 2 ≤ 1000; decide), fun tt htt => ?_⟩⟩
      have V2 := (Same.upd (o := .lst []) hl5).trans (Same.upd (o := .tup [V.ref l2, V.ref l5]) htt)
      have V3 := V1.trans V2
      refine ⟨_, _, .tup (SqT.of (V3 _ _ hz)) (.cons (.lst (SqL.of (V3 _ _ hq2)) (DatAll.ints _)) (.cons (.lst (SqL.of (V3 _ _ hr2)) .nil) .nil)), .tup (SqT.of upd_same) (.cons (.lst (SqL.of (V2 _ _ h2)) (DatAll.ints _)) (.cons (.lst (SqL.of (Same.upd htt _ _ upd_same)) .nil) .nil)), pair_shaped _, pair_shaped _, ?_⟩
      rw [eqv_same (SeqAt.canLay_of_shaped (pair_shaped _))]
      exact k _
end
theorem all_mk {l : PySem.W.OpenLaw} {w : World} {K : PySem.W.Frag} {h : Heap} {mg : Str → Option Value} {fa : Addr} (X : K.In h) (G : h.Ns mainGlobals mg) (hfa : mg "law" = some (.ref fa))
    {f0 : Addr} {od0 an0 : Option Addr} {sl0 : Array (Option Value)} {oc0 kV0 dc0 pm0 cd0 ct0 : Value}
    (a0 : PySem.W.nsIn K mainGlobals "_law_cell" = some (some (.ref f0))) (l0 : K.lookup f0 = some ⟨oc0, od0, .func (PySem.W.fnOf "_law_cell" "_law_cell" (defArgs s__law_cell) (defBody s__law_cell) (defScope s__law_cell) .none kV0 dc0 pm0 an0 cd0 ct0), sl0⟩) (c0 : PySem.W.codeIn K cd0 "_law_cell" = true) (k0 : PySem.W.keepIn K (.ref f0) = true)
    {f1 : Addr} {od1 an1 : Option Addr} {sl1 : Array (Option Value)} {oc1 kV1 dc1 pm1 cd1 ct1 : Value}
    (a1 : PySem.W.nsIn K mainGlobals "_law_mix" = some (some (.ref f1))) (l1 : K.lookup f1 = some ⟨oc1, od1, .func (PySem.W.fnOf "_law_mix" "_law_mix" (defArgs s__law_mix) (defBody s__law_mix) (defScope s__law_mix) .none kV1 dc1 pm1 an1 cd1 ct1), sl1⟩) (c1 : PySem.W.codeIn K cd1 "_law_mix" = true) (k1 : PySem.W.keepIn K (.ref f1) = true)
    {f2 : Addr} {od2 an2 : Option Addr} {sl2 : Array (Option Value)} {oc2 kV2 dc2 pm2 cd2 ct2 : Value}
    (a2 : PySem.W.nsIn K mainGlobals "_law_system" = some (some (.ref f2))) (l2 : K.lookup f2 = some ⟨oc2, od2, .func (PySem.W.fnOf "_law_system" "_law_system" (defArgs s__law_system) (defBody s__law_system) (defScope s__law_system) .none kV2 dc2 pm2 an2 cd2 ct2), sl2⟩) (c2 : PySem.W.codeIn K cd2 "_law_system" = true) (k2 : PySem.W.keepIn K (.ref f2) = true)
    {f3 : Addr} {od3 an3 : Option Addr} {sl3 : Array (Option Value)} {oc3 kV3 dc3 pm3 cd3 ct3 : Value}
    (a3 : PySem.W.nsIn K mainGlobals "is_number" = some (some (.ref f3))) (l3 : K.lookup f3 = some ⟨oc3, od3, .func (PySem.W.fnOf "is_number" "is_number" (defArgs s_is_number) (defBody s_is_number) (defScope s_is_number) .none kV3 dc3 pm3 an3 cd3 ct3), sl3⟩) (c3 : PySem.W.codeIn K cd3 "is_number" = true) (k3 : PySem.W.keepIn K (.ref f3) = true)
    {f4 : Addr} {od4 an4 : Option Addr} {sl4 : Array (Option Value)} {oc4 kV4 dc4 pm4 cd4 ct4 : Value}
    (a4 : PySem.W.nsIn K mainGlobals "is_rising" = some (some (.ref f4))) (l4 : K.lookup f4 = some ⟨oc4, od4, .func (PySem.W.fnOf "is_rising" "is_rising" (defArgs s_is_rising) (defBody s_is_rising) (defScope s_is_rising) .none kV4 dc4 pm4 an4 cd4 ct4), sl4⟩) (c4 : PySem.W.codeIn K cd4 "is_rising" = true) (k4 : PySem.W.keepIn K (.ref f4) = true)
    {f5 : Addr} {od5 an5 : Option Addr} {sl5 : Array (Option Value)} {oc5 kV5 dc5 pm5 cd5 ct5 : Value}
    (a5 : PySem.W.nsIn K mainGlobals "is_system" = some (some (.ref f5))) (l5 : K.lookup f5 = some ⟨oc5, od5, .func (PySem.W.fnOf "is_system" "is_system" (defArgs s_is_system) (defBody s_is_system) (defScope s_is_system) .none kV5 dc5 pm5 an5 cd5 ct5), sl5⟩) (c5 : PySem.W.codeIn K cd5 "is_system" = true) (k5 : PySem.W.keepIn K (.ref f5) = true)
    {f6 : Addr} {od6 an6 : Option Addr} {sl6 : Array (Option Value)} {oc6 kV6 dc6 pm6 cd6 ct6 : Value}
    (a6 : PySem.W.nsIn K mainGlobals "checked" = some (some (.ref f6))) (l6 : K.lookup f6 = some ⟨oc6, od6, .func (PySem.W.fnOf "checked" "checked" (defArgs s_checked) (defBody s_checked) (defScope s_checked) .none kV6 dc6 pm6 an6 cd6 ct6), sl6⟩) (c6 : PySem.W.codeIn K cd6 "checked" = true) (k6 : PySem.W.keepIn K (.ref f6) = true)
    {f7 : Addr} {od7 an7 : Option Addr} {sl7 : Array (Option Value)} {oc7 kV7 dc7 pm7 cd7 ct7 : Value}
    (a7 : PySem.W.nsIn K mainGlobals "refuse_bad_sum" = some (some (.ref f7))) (l7 : K.lookup f7 = some ⟨oc7, od7, .func (PySem.W.fnOf "refuse_bad_sum" "refuse_bad_sum" (defArgs s_refuse_bad_sum) (defBody s_refuse_bad_sum) (defScope s_refuse_bad_sum) .none kV7 dc7 pm7 an7 cd7 ct7), sl7⟩) (c7 : PySem.W.codeIn K cd7 "refuse_bad_sum" = true) (k7 : PySem.W.keepIn K (.ref f7) = true)
    {f8 : Addr} {od8 an8 : Option Addr} {sl8 : Array (Option Value)} {oc8 kV8 dc8 pm8 cd8 ct8 : Value}
    (a8 : PySem.W.nsIn K mainGlobals "by_fewest" = some (some (.ref f8))) (l8 : K.lookup f8 = some ⟨oc8, od8, .func (PySem.W.fnOf "by_fewest" "by_fewest" (defArgs s_by_fewest) (defBody s_by_fewest) (defScope s_by_fewest) .none kV8 dc8 pm8 an8 cd8 ct8), sl8⟩) (c8 : PySem.W.codeIn K cd8 "by_fewest" = true) (k8 : PySem.W.keepIn K (.ref f8) = true)
    {f9 : Addr} {od9 an9 : Option Addr} {sl9 : Array (Option Value)} {oc9 kV9 dc9 pm9 cd9 ct9 : Value}
    (a9 : PySem.W.nsIn K mainGlobals "by_greatest" = some (some (.ref f9))) (l9 : K.lookup f9 = some ⟨oc9, od9, .func (PySem.W.fnOf "by_greatest" "by_greatest" (defArgs s_by_greatest) (defBody s_by_greatest) (defScope s_by_greatest) .none kV9 dc9 pm9 an9 cd9 ct9), sl9⟩) (c9 : PySem.W.codeIn K cd9 "by_greatest" = true) (k9 : PySem.W.keepIn K (.ref f9) = true)
    {f10 : Addr} {od10 an10 : Option Addr} {sl10 : Array (Option Value)} {oc10 kV10 dc10 pm10 cd10 ct10 : Value}
    (a10 : PySem.W.nsIn K mainGlobals "count_ways" = some (some (.ref f10))) (l10 : K.lookup f10 = some ⟨oc10, od10, .func (PySem.W.fnOf "count_ways" "count_ways" (defArgs s_count_ways) (defBody s_count_ways) (defScope s_count_ways) .none kV10 dc10 pm10 an10 cd10 ct10), sl10⟩) (c10 : PySem.W.codeIn K cd10 "count_ways" = true) (k10 : PySem.W.keepIn K (.ref f10) = true)
    {f11 : Addr} {od11 an11 : Option Addr} {sl11 : Array (Option Value)} {oc11 kV11 dc11 pm11 cd11 ct11 : Value}
    (a11 : PySem.W.nsIn K mainGlobals "fewest_up_to" = some (some (.ref f11))) (l11 : K.lookup f11 = some ⟨oc11, od11, .func (PySem.W.fnOf "fewest_up_to" "fewest_up_to" (defArgs s_fewest_up_to) (defBody s_fewest_up_to) (defScope s_fewest_up_to) .none kV11 dc11 pm11 an11 cd11 ct11), sl11⟩) (c11 : PySem.W.codeIn K cd11 "fewest_up_to" = true) (k11 : PySem.W.keepIn K (.ref f11) = true)
    {f12 : Addr} {od12 an12 : Option Addr} {sl12 : Array (Option Value)} {oc12 kV12 dc12 pm12 cd12 ct12 : Value}
    (a12 : PySem.W.nsIn K mainGlobals "fewest" = some (some (.ref f12))) (l12 : K.lookup f12 = some ⟨oc12, od12, .func (PySem.W.fnOf "fewest" "fewest" (defArgs s_fewest) (defBody s_fewest) (defScope s_fewest) .none kV12 dc12 pm12 an12 cd12 ct12), sl12⟩) (c12 : PySem.W.codeIn K cd12 "fewest" = true) (k12 : PySem.W.keepIn K (.ref f12) = true)
    {f13 : Addr} {od13 an13 : Option Addr} {sl13 : Array (Option Value)} {oc13 kV13 dc13 pm13 cd13 ct13 : Value}
    (a13 : PySem.W.nsIn K mainGlobals "excess" = some (some (.ref f13))) (l13 : K.lookup f13 = some ⟨oc13, od13, .func (PySem.W.fnOf "excess" "excess" (defArgs s_excess) (defBody s_excess) (defScope s_excess) .none kV13 dc13 pm13 an13 cd13 ct13), sl13⟩) (c13 : PySem.W.codeIn K cd13 "excess" = true) (k13 : PySem.W.keepIn K (.ref f13) = true)
    {f14 : Addr} {od14 an14 : Option Addr} {sl14 : Array (Option Value)} {oc14 kV14 dc14 pm14 cd14 ct14 : Value}
    (a14 : PySem.W.nsIn K mainGlobals "one_step_further" = some (some (.ref f14))) (l14 : K.lookup f14 = some ⟨oc14, od14, .func (PySem.W.fnOf "one_step_further" "one_step_further" (defArgs s_one_step_further) (defBody s_one_step_further) (defScope s_one_step_further) .none kV14 dc14 pm14 an14 cd14 ct14), sl14⟩) (c14 : PySem.W.codeIn K cd14 "one_step_further" = true) (k14 : PySem.W.keepIn K (.ref f14) = true)
    {f15 : Addr} {od15 an15 : Option Addr} {sl15 : Array (Option Value)} {oc15 kV15 dc15 pm15 cd15 ct15 : Value}
    (a15 : PySem.W.nsIn K mainGlobals "last_steps" = some (some (.ref f15))) (l15 : K.lookup f15 = some ⟨oc15, od15, .func (PySem.W.fnOf "last_steps" "last_steps" (defArgs s_last_steps) (defBody s_last_steps) (defScope s_last_steps) .none kV15 dc15 pm15 an15 cd15 ct15), sl15⟩) (c15 : PySem.W.codeIn K cd15 "last_steps" = true) (k15 : PySem.W.keepIn K (.ref f15) = true)
    {f16 : Addr} {od16 an16 : Option Addr} {sl16 : Array (Option Value)} {oc16 kV16 dc16 pm16 cd16 ct16 : Value}
    (a16 : PySem.W.nsIn K mainGlobals "steps_back" = some (some (.ref f16))) (l16 : K.lookup f16 = some ⟨oc16, od16, .func (PySem.W.fnOf "steps_back" "steps_back" (defArgs s_steps_back) (defBody s_steps_back) (defScope s_steps_back) .none kV16 dc16 pm16 an16 cd16 ct16), sl16⟩) (c16 : PySem.W.codeIn K cd16 "steps_back" = true) (k16 : PySem.W.keepIn K (.ref f16) = true)
    {f17 : Addr} {od17 an17 : Option Addr} {sl17 : Array (Option Value)} {oc17 kV17 dc17 pm17 cd17 ct17 : Value}
    (a17 : PySem.W.nsIn K mainGlobals "handed" = some (some (.ref f17))) (l17 : K.lookup f17 = some ⟨oc17, od17, .func (PySem.W.fnOf "handed" "handed" (defArgs s_handed) (defBody s_handed) (defScope s_handed) .none kV17 dc17 pm17 an17 cd17 ct17), sl17⟩) (c17 : PySem.W.codeIn K cd17 "handed" = true) (k17 : PySem.W.keepIn K (.ref f17) = true)
    {f18 : Addr} {od18 an18 : Option Addr} {sl18 : Array (Option Value)} {oc18 kV18 dc18 pm18 cd18 ct18 : Value}
    (a18 : PySem.W.nsIn K mainGlobals "fewest_handed" = some (some (.ref f18))) (l18 : K.lookup f18 = some ⟨oc18, od18, .func (PySem.W.fnOf "fewest_handed" "fewest_handed" (defArgs s_fewest_handed) (defBody s_fewest_handed) (defScope s_fewest_handed) .none kV18 dc18 pm18 an18 cd18 ct18), sl18⟩) (c18 : PySem.W.codeIn K cd18 "fewest_handed" = true) (k18 : PySem.W.keepIn K (.ref f18) = true)
    {f19 : Addr} {od19 an19 : Option Addr} {sl19 : Array (Option Value)} {oc19 kV19 dc19 pm19 cd19 ct19 : Value}
    (a19 : PySem.W.nsIn K mainGlobals "is_way" = some (some (.ref f19))) (l19 : K.lookup f19 = some ⟨oc19, od19, .func (PySem.W.fnOf "is_way" "is_way" (defArgs s_is_way) (defBody s_is_way) (defScope s_is_way) .none kV19 dc19 pm19 an19 cd19 ct19), sl19⟩) (c19 : PySem.W.codeIn K cd19 "is_way" = true) (k19 : PySem.W.keepIn K (.ref f19) = true)
    {f20 : Addr} {od20 an20 : Option Addr} {sl20 : Array (Option Value)} {oc20 kV20 dc20 pm20 cd20 ct20 : Value}
    (a20 : PySem.W.nsIn K mainGlobals "sum_of" = some (some (.ref f20))) (l20 : K.lookup f20 = some ⟨oc20, od20, .func (PySem.W.fnOf "sum_of" "sum_of" (defArgs s_sum_of) (defBody s_sum_of) (defScope s_sum_of) .none kV20 dc20 pm20 an20 cd20 ct20), sl20⟩) (c20 : PySem.W.codeIn K cd20 "sum_of" = true) (k20 : PySem.W.keepIn K (.ref f20) = true)
    {f21 : Addr} {od21 an21 : Option Addr} {sl21 : Array (Option Value)} {oc21 kV21 dc21 pm21 cd21 ct21 : Value}
    (a21 : PySem.W.nsIn K mainGlobals "_law_deed" = some (some (.ref f21))) (l21 : K.lookup f21 = some ⟨oc21, od21, .func (PySem.W.fnOf "_law_deed" "_law_deed" (defArgs s__law_deed) (defBody s__law_deed) (defScope s__law_deed) .none kV21 dc21 pm21 an21 cd21 ct21), sl21⟩) (c21 : PySem.W.codeIn K cd21 "_law_deed" = true) (k21 : PySem.W.keepIn K (.ref f21) = true)
    {f22 : Addr} {od22 an22 : Option Addr} {sl22 : Array (Option Value)} {oc22 kV22 dc22 pm22 cd22 ct22 : Value}
    (a22 : PySem.W.nsIn K mainGlobals "_law_told" = some (some (.ref f22))) (l22 : K.lookup f22 = some ⟨oc22, od22, .func (PySem.W.fnOf "_law_told" "_law_told" (defArgs s__law_told) (defBody s__law_told) (defScope s__law_told) .none kV22 dc22 pm22 an22 cd22 ct22), sl22⟩) (c22 : PySem.W.codeIn K cd22 "_law_told" = true) (k22 : PySem.W.keepIn K (.ref f22) = true)
    {f23 : Addr} {od23 an23 : Option Addr} {sl23 : Array (Option Value)} {oc23 kV23 dc23 pm23 cd23 ct23 : Value}
    (a23 : PySem.W.nsIn K mainGlobals "law" = some (some (.ref f23))) (l23 : K.lookup f23 = some ⟨oc23, od23, .func (PySem.W.fnOf "law" "law" (defArgs s_law) (defBody s_law) (defScope s_law) .none kV23 dc23 pm23 an23 cd23 ct23), sl23⟩) (c23 : PySem.W.codeIn K cd23 "law" = true) (k23 : PySem.W.keepIn K (.ref f23) = true)
    {e0 : Addr} (cl0 : PySem.W.nsIn K mainGlobals "BadSum" = some (some (.ref e0)))
    {e1 : Addr} (cl1 : PySem.W.nsIn K mainGlobals "BadSystem" = some (some (.ref e1)))
    {e2 : Addr} (cl2 : PySem.W.nsIn K mainGlobals "BadWay" = some (some (.ref e2)))
    {e3 : Addr} (cl3 : PySem.W.nsIn K mainGlobals "TillError" = some (some (.ref e3)))
    (u1 : PySem.W.excIn K e0 bmVE "ValueError.__new__" = true)
    (u2 : PySem.W.findIn K (.ref e0) "__getattribute__" = some (some (.builtin "BaseException.__getattribute__")))
    (u3 : PySem.W.findIn K (.ref e0) "__getattr__" = some none)
    (u4 : PySem.W.findIn K (.ref e0) "__class__" = some (some (.builtin "object.__class__")))
    (u5 : PySem.W.mroIn K e0 (.type "object") = some true)
    (u6 : PySem.W.mroIn K e0 (.type "BaseException") = some true)
    (u7 : PySem.W.kitOne K (.ref e0) (.type "ValueError") = some true)
    (u8 : PySem.W.exmOne K (.ref e0) (.ref e3) = some true)
    (u9 : PySem.W.kitOne K (.ref e0) (.ref e0) = some true)
    (u10 : PySem.W.kitOne K (.ref e0) (.ref e1) = some false)
    (u11 : PySem.W.kitOne K (.ref e0) (.ref e2) = some false)
    (u13 : PySem.W.excIn K e1 bmVE "ValueError.__new__" = true)
    (u14 : PySem.W.findIn K (.ref e1) "__getattribute__" = some (some (.builtin "BaseException.__getattribute__")))
    (u15 : PySem.W.findIn K (.ref e1) "__getattr__" = some none)
    (u16 : PySem.W.findIn K (.ref e1) "__class__" = some (some (.builtin "object.__class__")))
    (u17 : PySem.W.mroIn K e1 (.type "object") = some true)
    (u18 : PySem.W.mroIn K e1 (.type "BaseException") = some true)
    (u19 : PySem.W.kitOne K (.ref e1) (.type "ValueError") = some true)
    (u20 : PySem.W.exmOne K (.ref e1) (.ref e3) = some true)
    (u21 : PySem.W.kitOne K (.ref e1) (.ref e0) = some false)
    (u22 : PySem.W.kitOne K (.ref e1) (.ref e1) = some true)
    (u23 : PySem.W.kitOne K (.ref e1) (.ref e2) = some false)
    (u25 : PySem.W.excIn K e2 bmVE "ValueError.__new__" = true)
    (u26 : PySem.W.findIn K (.ref e2) "__getattribute__" = some (some (.builtin "BaseException.__getattribute__")))
    (u27 : PySem.W.findIn K (.ref e2) "__getattr__" = some none)
    (u28 : PySem.W.findIn K (.ref e2) "__class__" = some (some (.builtin "object.__class__")))
    (u29 : PySem.W.mroIn K e2 (.type "object") = some true)
    (u30 : PySem.W.mroIn K e2 (.type "BaseException") = some true)
    (u31 : PySem.W.kitOne K (.ref e2) (.type "ValueError") = some true)
    (u32 : PySem.W.exmOne K (.ref e2) (.ref e3) = some true)
    (u33 : PySem.W.kitOne K (.ref e2) (.ref e0) = some false)
    (u34 : PySem.W.kitOne K (.ref e2) (.ref e1) = some false)
    (u35 : PySem.W.kitOne K (.ref e2) (.ref e2) = some true)
    (u37 : PySem.W.specialIn K (.builtin "object.__class__") "__get__" = some (some (.builtin "getset_descriptor.__get__")))
    (u38 : PySem.W.takesIn K (.builtin "object.__class__") = some true)
    (z0 : PySem.W.nsIn K mainGlobals "ValueError" = some none)
    (z1 : PySem.W.nsIn K mainGlobals "all" = some none)
    (z2 : PySem.W.nsIn K mainGlobals "bool" = some none)
    (z3 : PySem.W.nsIn K mainGlobals "int" = some none)
    (z4 : PySem.W.nsIn K mainGlobals "isinstance" = some none)
    (z5 : PySem.W.nsIn K mainGlobals "len" = some none)
    (z6 : PySem.W.nsIn K mainGlobals "list" = some none)
    (z7 : PySem.W.nsIn K mainGlobals "min" = some none)
    (z8 : PySem.W.nsIn K mainGlobals "range" = some none)
    (z9 : PySem.W.nsIn K mainGlobals "set" = some none)
    (z10 : PySem.W.nsIn K mainGlobals "sorted" = some none)
    (z11 : PySem.W.nsIn K mainGlobals "sum" = some none)
    (z12 : PySem.W.nsIn K mainGlobals "tuple" = some none)
    (z13 : PySem.W.nsIn K mainGlobals "zip" = some none)
    {tk0 : Tok} (y0 : PySem.W.nsIn K mainGlobals "GREATEST_COIN" = some (some (.int 200 tk0)))
    {tk1 : Tok} (y1 : PySem.W.nsIn K mainGlobals "GREATEST_HANDED" = some (some (.int 400 tk1)))
    {tk2 : Tok} (y2 : PySem.W.nsIn K mainGlobals "GREATEST_SUM" = some (some (.int 2000 tk2)))
    {tk3 : Tok} (y3 : PySem.W.nsIn K mainGlobals "GREATEST_TIMES" = some (some (.int 2000 tk3)))
    {tk4 : Tok} (y4 : PySem.W.nsIn K mainGlobals "MOST_COINS" = some (some (.int 8 tk4)))
    : ∃ fd : FuncData, (∀ (s : Shared) (v : Value), BindsTo s fd ⟨[v], []⟩ [("_law_script", v)]) ∧ ∀ base : Heap, K.In base → base.Ns mainGlobals mg → FnOk l.prog w K mg base CX0 9 fa fd ["_law_script"] (sp_law K) := by
  have e := hfa.symm.trans (PySem.W.mg_of X G a23)
  cases e
  have F0 := fun_mk (st := s__law_cell) l0 c0 k0
  have b0 := F0.binds (ps := ["_law_script", "_law_k"]) fun _ _ _ _ _ _ us hl => match us, hl with | [_, _], _ => rfl
  have F1 := fun_mk (st := s__law_mix) l1 c1 k1
  have b1 := F1.binds (ps := ["_law_cell_here", "_law_prime", "_law_many"]) fun _ _ _ _ _ _ us hl => match us, hl with | [_, _, _], _ => rfl
  have F2 := fun_mk (st := s__law_system) l2 c2 k2
  have b2 := F2.binds (ps := ["_law_script", "_law_at"]) fun _ _ _ _ _ _ us hl => match us, hl with | [_, _], _ => rfl
  have F3 := fun_mk (st := s_is_number) l3 c3 k3
  have b3 := F3.binds (ps := ["thing", "least", "most"]) fun _ _ _ _ _ _ us hl => match us, hl with | [_, _, _], _ => rfl
  have F4 := fun_mk (st := s_is_rising) l4 c4 k4
  have b4 := F4.binds (ps := ["coins"]) fun _ _ _ _ _ _ us hl => match us, hl with | [_], _ => rfl
  have F5 := fun_mk (st := s_is_system) l5 c5 k5
  have b5 := F5.binds (ps := ["thing"]) fun _ _ _ _ _ _ us hl => match us, hl with | [_], _ => rfl
  have F6 := fun_mk (st := s_checked) l6 c6 k6
  have b6 := F6.binds (ps := ["system"]) fun _ _ _ _ _ _ us hl => match us, hl with | [_], _ => rfl
  have F7 := fun_mk (st := s_refuse_bad_sum) l7 c7 k7
  have b7 := F7.binds (ps := ["system", "number"]) fun _ _ _ _ _ _ us hl => match us, hl with | [_, _], _ => rfl
  have F8 := fun_mk (st := s_by_fewest) l8 c8 k8
  have b8 := F8.binds (ps := ["system", "number"]) fun _ _ _ _ _ _ us hl => match us, hl with | [_, _], _ => rfl
  have F9 := fun_mk (st := s_by_greatest) l9 c9 k9
  have b9 := F9.binds (ps := ["system", "number"]) fun _ _ _ _ _ _ us hl => match us, hl with | [_, _], _ => rfl
  have F10 := fun_mk (st := s_count_ways) l10 c10 k10
  have b10 := F10.binds (ps := ["system", "number"]) fun _ _ _ _ _ _ us hl => match us, hl with | [_, _], _ => rfl
  have F11 := fun_mk (st := s_fewest_up_to) l11 c11 k11
  have b11 := F11.binds (ps := ["system", "last"]) fun _ _ _ _ _ _ us hl => match us, hl with | [_, _], _ => rfl
  have F12 := fun_mk (st := s_fewest) l12 c12 k12
  have b12 := F12.binds (ps := ["system", "number"]) fun _ _ _ _ _ _ us hl => match us, hl with | [_, _], _ => rfl
  have F13 := fun_mk (st := s_excess) l13 c13 k13
  have b13 := F13.binds (ps := ["system", "number"]) fun _ _ _ _ _ _ us hl => match us, hl with | [_, _], _ => rfl
  have F14 := fun_mk (st := s_one_step_further) l14 c14 k14
  have b14 := F14.binds (ps := ["outermost", "steps", "found", "least", "most"]) fun _ _ _ _ _ _ us hl => match us, hl with | [_, _, _, _, _], _ => rfl
  have F15 := fun_mk (st := s_last_steps) l15 c15 k15
  have b15 := F15.binds (ps := ["system", "number"]) fun _ _ _ _ _ _ us hl => match us, hl with | [_, _], _ => rfl
  have F16 := fun_mk (st := s_steps_back) l16 c16 k16
  have b16 := F16.binds (ps := ["found", "number"]) fun _ _ _ _ _ _ us hl => match us, hl with | [_, _], _ => rfl
  have F17 := fun_mk (st := s_handed) l17 c17 k17
  have b17 := F17.binds (ps := ["system", "number"]) fun _ _ _ _ _ _ us hl => match us, hl with | [_, _], _ => rfl
  have F18 := fun_mk (st := s_fewest_handed) l18 c18 k18
  have b18 := F18.binds (ps := ["system", "number"]) fun _ _ _ _ _ _ us hl => match us, hl with | [_, _], _ => rfl
  have F19 := fun_mk (st := s_is_way) l19 c19 k19
  have b19 := F19.binds (ps := ["system", "thing"]) fun _ _ _ _ _ _ us hl => match us, hl with | [_, _], _ => rfl
  have F20 := fun_mk (st := s_sum_of) l20 c20 k20
  have b20 := F20.binds (ps := ["system", "way"]) fun _ _ _ _ _ _ us hl => match us, hl with | [_, _], _ => rfl
  have F21 := fun_mk (st := s__law_deed) l21 c21 k21
  have b21 := F21.binds (ps := ["_law_way", "_law_system_here", "_law_number"]) fun _ _ _ _ _ _ us hl => match us, hl with | [_, _, _], _ => rfl
  have F22 := fun_mk (st := s__law_told) l22 c22 k22
  have b22 := F22.binds (ps := ["_law_way", "_law_system_here", "_law_number"]) fun _ _ _ _ _ _ us hl => match us, hl with | [_, _, _], _ => rfl
  have F23 := fun_mk (st := s_law) l23 c23 k23
  have b23 := F23.binds (ps := ["_law_script"]) fun _ _ _ _ _ _ us hl => match us, hl with | [_], _ => rfl
  have T : Txt K mg ⟨_, _, _, _, _, _, _, _, _, _, _, _, _, _, _, _, _, _, _, _, _, _, _, _, _, _, _, _, _, _, _, _, _, _, _, _, _, _, _, _, _, _, _, _, _, _, _, _, e0, e1, e2, e3⟩ := ⟨F0, b0, PySem.W.mg_of X G a0, k0, F1, b1, PySem.W.mg_of X G a1, k1, F2, b2, PySem.W.mg_of X G a2, k2, F3, b3, PySem.W.mg_of X G a3, k3, F4, b4, PySem.W.mg_of X G a4, k4, F5, b5, PySem.W.mg_of X G a5, k5, F6, b6, PySem.W.mg_of X G a6, k6, F7, b7, PySem.W.mg_of X G a7, k7, F8, b8, PySem.W.mg_of X G a8, k8, F9, b9, PySem.W.mg_of X G a9, k9, F10, b10, PySem.W.mg_of X G a10, k10, F11, b11, PySem.W.mg_of X G a11, k11, F12, b12, PySem.W.mg_of X G a12, k12, F13, b13, PySem.W.mg_of X G a13, k13, F14, b14, PySem.W.mg_of X G a14, k14, F15, b15, PySem.W.mg_of X G a15, k15, F16, b16, PySem.W.mg_of X G a16, k16, F17, b17, PySem.W.mg_of X G a17, k17, F18, b18, PySem.W.mg_of X G a18, k18, F19, b19, PySem.W.mg_of X G a19, k19, F20, b20, PySem.W.mg_of X G a20, k20, F21, b21, PySem.W.mg_of X G a21, k21, F22, b22, PySem.W.mg_of X G a22, k22, F23, b23, PySem.W.mg_of X G a23, k23, PySem.W.mg_of X G cl0, u1, u2, u3, u4, u5, u6, u7, u8, u9, u10, u11, PySem.W.mg_of X G cl1, u13, u14, u15, u16, u17, u18, u19, u20, u21, u22, u23, PySem.W.mg_of X G cl2, u25, u26, u27, u28, u29, u30, u31, u32, u33, u34, u35, PySem.W.mg_of X G cl3, u37, u38, PySem.W.mg_none_of X G z0, PySem.W.mg_none_of X G z1, PySem.W.mg_none_of X G z2, PySem.W.mg_none_of X G z3, PySem.W.mg_none_of X G z4, PySem.W.mg_none_of X G z5, PySem.W.mg_none_of X G z6, PySem.W.mg_none_of X G z7, PySem.W.mg_none_of X G z8, PySem.W.mg_none_of X G z9, PySem.W.mg_none_of X G z10, PySem.W.mg_none_of X G z11, PySem.W.mg_none_of X G z12, PySem.W.mg_none_of X G z13, ⟨_, PySem.W.mg_of X G y0⟩, ⟨_, PySem.W.mg_of X G y1⟩, ⟨_, PySem.W.mg_of X G y2⟩, ⟨_, PySem.W.mg_of X G y3⟩, ⟨_, PySem.W.mg_of X G y4⟩⟩
  exact ⟨_, fun s v => .of_eq rfl, fun base _ _ => ok_law T⟩
theorem walk {l : PySem.W.OpenLaw} {q : Program} {loose : List Str} {XP : (Str → Option Value) → Heap → Prop} {YP : World → Heap → Prop} {d : DefRec} {K : Params → PySem.W.Frag} (hn : l.most = some 63) (hdf : d.params.defaults = [])
    (hY : ∀ (w : World) (h : Heap), YP w h → (K w.params).In h)
    (F : ∀ (w : World) (mg : Str → Option Value) (fa : Addr) (h : Heap), (K w.params).In h → h.Ns mainGlobals mg → mg d.name = some (.ref fa) →
      ∃ fd : FuncData, (∀ (s : Shared) (u : Value), BindsTo s fd ⟨[u], []⟩ [("_law_script", u)]) ∧ ∀ base : Heap, (K w.params).In base → base.Ns mainGlobals mg → FnOk l.prog w (K w.params) mg base CX0 9 fa fd ["_law_script"] (sp_law (K w.params))) :
    PySem.W.WalkO q loose XP YP l.row.toRowW d [] (fun f vs => PySem.call f vs) :=
  L2.walk_of (n := 63) (k := 9) (x := "_law_script") (CX := fun _ => CX0) (sp := fun w => sp_law (K w.params)) hn (by decide) hdf ⟨rfl, by decide, by decide⟩ hY F (fun _ _ a ns hl _ hS => ⟨a, ns, rfl, hS, hl, fun _ => rfl⟩) fun _ _ _ _ _ z => z
end TK
open PySem PySem.W PyProof.Rows
set_option maxRecDepth 100000 in
set_option maxHeartbeats 0 in
theorem PySem.Challenge.cw_tillcoins_k05_sums_and_ways_refused_holds : PySem.Challenge.rw_tillcoins_k05_sums_and_ways_refused.Holds := by
  w_on; o_law; k_head; (case hw => w_witness2)
  k_fill
  refine TK.walk (l := PySem.Challenge.rw_tillcoins_k05_sums_and_ways_refused) rfl rfl (fun w h Y => PySem.W.kIn_of Y) ?F
  case F =>
    intro w mg fa h KX G hmg
    refine' TK.all_mk KX G hmg ?a0 ?l0 ?c0 ?k0 ?a1 ?l1 ?c1 ?k1 ?a2 ?l2 ?c2 ?k2 ?a3 ?l3 ?c3 ?k3 ?a4 ?l4 ?c4 ?k4 ?a5 ?l5 ?c5 ?k5 ?a6 ?l6 ?c6 ?k6 ?a7 ?l7 ?c7 ?k7 ?a8 ?l8 ?c8 ?k8 ?a9 ?l9 ?c9 ?k9 ?a10 ?l10 ?c10 ?k10 ?a11 ?l11 ?c11 ?k11 ?a12 ?l12 ?c12 ?k12 ?a13 ?l13 ?c13 ?k13 ?a14 ?l14 ?c14 ?k14 ?a15 ?l15 ?c15 ?k15 ?a16 ?l16 ?c16 ?k16 ?a17 ?l17 ?c17 ?k17 ?a18 ?l18 ?c18 ?k18 ?a19 ?l19 ?c19 ?k19 ?a20 ?l20 ?c20 ?k20 ?a21 ?l21 ?c21 ?k21 ?a22 ?l22 ?c22 ?k22 ?a23 ?l23 ?c23 ?k23 ?cl0 ?cl1 ?cl2 ?cl3 ?u1 ?u2 ?u3 ?u4 ?u5 ?u6 ?u7 ?u8 ?u9 ?u10 ?u11 ?u13 ?u14 ?u15 ?u16 ?u17 ?u18 ?u19 ?u20 ?u21 ?u22 ?u23 ?u25 ?u26 ?u27 ?u28 ?u29 ?u30 ?u31 ?u32 ?u33 ?u34 ?u35 ?u37 ?u38 ?z0 ?z1 ?z2 ?z3 ?z4 ?z5 ?z6 ?z7 ?z8 ?z9 ?z10 ?z11 ?z12 ?z13 ?y0 ?y1 ?y2 ?y3 ?y4
    (case a0 => k_is)
    (case l0 => k_is)
    (case c0 => k_is)
    (case k0 => k_is)
    (case a1 => k_is)
    (case l1 => k_is)
    (case c1 => k_is)
    (case k1 => k_is)
    (case a2 => k_is)
    (case l2 => k_is)
    (case c2 => k_is)
    (case k2 => k_is)
    (case a3 => k_is)
    (case l3 => k_is)
    (case c3 => k_is)
    (case k3 => k_is)
    (case a4 => k_is)
    (case l4 => k_is)
    (case c4 => k_is)
    (case k4 => k_is)
    (case a5 => k_is)
    (case l5 => k_is)
    (case c5 => k_is)
    (case k5 => k_is)
    (case a6 => k_is)
    (case l6 => k_is)
    (case c6 => k_is)
    (case k6 => k_is)
    (case a7 => k_is)
    (case l7 => k_is)
    (case c7 => k_is)
    (case k7 => k_is)
    (case a8 => k_is)
    (case l8 => k_is)
    (case c8 => k_is)
    (case k8 => k_is)
    (case a9 => k_is)
    (case l9 => k_is)
    (case c9 => k_is)
    (case k9 => k_is)
    (case a10 => k_is)
    (case l10 => k_is)
    (case c10 => k_is)
    (case k10 => k_is)
    (case a11 => k_is)
    (case l11 => k_is)
    (case c11 => k_is)
    (case k11 => k_is)
    (case a12 => k_is)
    (case l12 => k_is)
    (case c12 => k_is)
    (case k12 => k_is)
    (case a13 => k_is)
    (case l13 => k_is)
    (case c13 => k_is)
    (case k13 => k_is)
    (case a14 => k_is)
    (case l14 => k_is)
    (case c14 => k_is)
    (case k14 => k_is)
    (case a15 => k_is)
    (case l15 => k_is)
    (case c15 => k_is)
    (case k15 => k_is)
    (case a16 => k_is)
    (case l16 => k_is)
    (case c16 => k_is)
    (case k16 => k_is)
    (case a17 => k_is)
    (case l17 => k_is)
    (case c17 => k_is)
    (case k17 => k_is)
    (case a18 => k_is)
    (case l18 => k_is)
    (case c18 => k_is)
    (case k18 => k_is)
    (case a19 => k_is)
    (case l19 => k_is)
    (case c19 => k_is)
    (case k19 => k_is)
    (case a20 => k_is)
    (case l20 => k_is)
    (case c20 => k_is)
    (case k20 => k_is)
    (case a21 => k_is)
    (case l21 => k_is)
    (case c21 => k_is)
    (case k21 => k_is)
    (case a22 => k_is)
    (case l22 => k_is)
    (case c22 => k_is)
    (case k22 => k_is)
    (case a23 => k_is)
    (case l23 => k_is)
    (case c23 => k_is)
    (case k23 => k_is)
    (case cl0 => k_is)
    (case cl1 => k_is)
    (case cl2 => k_is)
    (case cl3 => k_is)
    (case u1 => first | k_is | k_exc | kit_is | kts_exm)
    (case u2 => first | k_is | k_exc | kit_is | kts_exm)
    (case u3 => first | k_is | k_exc | kit_is | kts_exm)
    (case u4 => first | k_is | k_exc | kit_is | kts_exm)
    (case u5 => first | k_is | k_exc | kit_is | kts_exm)
    (case u6 => first | k_is | k_exc | kit_is | kts_exm)
    (case u7 => first | k_is | k_exc | kit_is | kts_exm)
    (case u8 => first | k_is | k_exc | kit_is | kts_exm)
    (case u9 => first | k_is | k_exc | kit_is | kts_exm)
    (case u10 => first | k_is | k_exc | kit_is | kts_exm)
    (case u11 => first | k_is | k_exc | kit_is | kts_exm)
    (case u13 => first | k_is | k_exc | kit_is | kts_exm)
    (case u14 => first | k_is | k_exc | kit_is | kts_exm)
    (case u15 => first | k_is | k_exc | kit_is | kts_exm)
    (case u16 => first | k_is | k_exc | kit_is | kts_exm)
    (case u17 => first | k_is | k_exc | kit_is | kts_exm)
    (case u18 => first | k_is | k_exc | kit_is | kts_exm)
    (case u19 => first | k_is | k_exc | kit_is | kts_exm)
    (case u20 => first | k_is | k_exc | kit_is | kts_exm)
    (case u21 => first | k_is | k_exc | kit_is | kts_exm)
    (case u22 => first | k_is | k_exc | kit_is | kts_exm)
    (case u23 => first | k_is | k_exc | kit_is | kts_exm)
    (case u25 => first | k_is | k_exc | kit_is | kts_exm)
    (case u26 => first | k_is | k_exc | kit_is | kts_exm)
    (case u27 => first | k_is | k_exc | kit_is | kts_exm)
    (case u28 => first | k_is | k_exc | kit_is | kts_exm)
    (case u29 => first | k_is | k_exc | kit_is | kts_exm)
    (case u30 => first | k_is | k_exc | kit_is | kts_exm)
    (case u31 => first | k_is | k_exc | kit_is | kts_exm)
    (case u32 => first | k_is | k_exc | kit_is | kts_exm)
    (case u33 => first | k_is | k_exc | kit_is | kts_exm)
    (case u34 => first | k_is | k_exc | kit_is | kts_exm)
    (case u35 => first | k_is | k_exc | kit_is | kts_exm)
    (case u37 => first | k_is | k_exc | kit_is | kts_exm)
    (case u38 => first | k_is | k_exc | kit_is | kts_exm)
    (case z0 => k_is)
    (case z1 => k_is)
    (case z2 => k_is)
    (case z3 => k_is)
    (case z4 => k_is)
    (case z5 => k_is)
    (case z6 => k_is)
    (case z7 => k_is)
    (case z8 => k_is)
    (case z9 => k_is)
    (case z10 => k_is)
    (case z11 => k_is)
    (case z12 => k_is)
    (case z13 => k_is)
    (case y0 => k_is)
    (case y1 => k_is)
    (case y2 => k_is)
    (case y3 => k_is)
    (case y4 => k_is)
