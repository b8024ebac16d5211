import PyProof.Rows.All
import PySem.Challenge.RW_pauseplaces_k35_known_rounds
import HandS.ForMost
import HandS.WordsExc
import HandS.CallSlots
import HandS.IsInst
import HandS.TupAny
import HandS.TupMul
import HandS.TupLe
import HandS.Zip
import HandS.Walk
import HandS.Deep
import HandS.Gcd
import KE.KDictKeyed
import HandS.Flow
import HandS.Style
import HandS.NoneIn
import HandS.Ends
import HandS.RaiseMore
import PyProof.ReprRoads
import KE.SortData
import HandS.MakeKw
import HandS.MakeKwOnly
import HandS.ExcInit
import HandS.ExcField
import HandS.TryMany
import HandS.More
import HandS.TupLen
import HandS.Iter
import HandS.DictComp
import HandS.Strs
import HandS.Conv
import KE.KRevSl
import HandS.DictEq
import KE.KDictDisplayH
import KE.GoesEnum
import KE.GoesEnumKw
import KE.KTupSum
set_option Elab.async false
set_option linter.all false
set_option maxRecDepth 100000
set_option maxHeartbeats 4000000
set_option autoImplicit false
/-! values, objects, the machine's memory; what they stand for -/
namespace MM
open PySem PySem.Spec PyProof.Rows L2

inductive Ty where
  | int | bool | str | tuple | list | dict | none
  deriving DecidableEq
def Ty.name : Ty → String
  | .int => "int" | .bool => "bool" | .str => "str" | .tuple => "tuple" | .list => "list" | .dict => "dict" | .none => "NoneType"
/-- a value; rep d: the text that repr gives of d -/
inductive D where
  | non | bl (b : Bool) | int (i : Int) | str (x : Str) | tup (xs : List D) | ref (i : Nat) | ty (n : Ty) | stat (n : Nat) | rep (d : PyData)
/-- an object: a list, the script, a list of the written part, an instance; a dict with keys that are ints and texts, with keys that are tuples; the same, locked -/
inductive O where
  | lst (xs : List D) | ro (xs : List D) | kl (xs : List D) | ins (C : Nat) (fs : List (Str × D)) | dct (kvs : List (L2.Key × D)) | dt (kvs : List (D × D)) | rct (kvs : List (L2.Key × D)) | rdt (kvs : List (D × D))
def O.isK : O → Bool
  | .kl _ => true
  | _ => false

/-! ### memory -/
inductive Tr where
  | e | n (o : Option O) (l r : Tr)
def Tr.get : Tr → Nat → Option O
  | .e, _ => none
  | .n o l r, i => bif Nat.beq i 0 then o else bif Nat.beq (i % 2) 1 then l.get (i / 2) else r.get (i / 2 - 1)
def Tr.here : Tr → Option O
  | .e => none
  | .n o _ _ => o
def Tr.le : Tr → Tr
  | .e => .e
  | .n _ l _ => l
def Tr.ri : Tr → Tr
  | .e => .e
  | .n _ _ r => r
def Tr.put : Nat → Tr → Nat → O → Tr
  | 0, t, _, _ => t
  | f + 1, .e, i, o => bif Nat.beq i 0 then .n (some o) .e .e else bif Nat.beq (i % 2) 1 then .n none (Tr.put f .e (i / 2) o) .e else .n none .e (Tr.put f .e (i / 2 - 1) o)
  | f + 1, .n x l r, i, o => bif Nat.beq i 0 then .n (some o) l r else bif Nat.beq (i % 2) 1 then .n x (Tr.put f l (i / 2) o) r else .n x l (Tr.put f r (i / 2 - 1) o)
theorem Tr.put_eq (f : Nat) (t : Tr) (i : Nat) (o : O) : Tr.put (f + 1) t i o = bif Nat.beq i 0 then .n (some o) t.le t.ri else bif Nat.beq (i % 2) 1 then .n t.here (Tr.put f t.le (i / 2) o) t.ri else .n t.here t.le (Tr.put f t.ri (i / 2 - 1) o) := by
  cases t <;> rfl
/-! lengths, told without a deep count -/
def ltLen {α : Type} : List α → Nat → Bool
  | [], n => Nat.blt 0 n
  | _ :: xs, n => match n with
    | 0 => false
    | m + 1 => ltLen xs m
def leLen {α : Type} : List α → Nat → Bool
  | [], _ => true
  | _ :: xs, n => match n with
    | 0 => false
    | m + 1 => leLen xs m
def eqLen {α : Type} : List α → Nat → Bool
  | [], n => Nat.beq n 0
  | _ :: xs, n => match n with
    | 0 => false
    | m + 1 => eqLen xs m
theorem ltLen_iff {α : Type} : ∀ {xs : List α} {n : Nat}, ltLen xs n = true ↔ xs.length < n
  | [], n => by unfold ltLen; simp [Nat.blt_eq]
  | _ :: xs, 0 => by simp [ltLen]
  | _ :: xs, n + 1 => by simp only [ltLen, List.length_cons]; rw [ltLen_iff]; omega
theorem leLen_iff {α : Type} : ∀ {xs : List α} {n : Nat}, leLen xs n = true ↔ xs.length ≤ n
  | [], n => by simp [leLen]
  | _ :: xs, 0 => by simp [leLen]
  | _ :: xs, n + 1 => by simp only [leLen, List.length_cons]; rw [leLen_iff]; omega
theorem eqLen_iff {α : Type} : ∀ {xs : List α} {n : Nat}, eqLen xs n = true ↔ xs.length = n
  | [], n => by unfold eqLen; rw [Nat.beq_eq]; exact ⟨fun h => h.symm, fun h => h.symm⟩
  | _ :: xs, 0 => by simp [eqLen]
  | _ :: xs, n + 1 => by simp only [eqLen, List.length_cons]; rw [eqLen_iff]; omega
instance (priority := 100000) instLtLen {α : Type} (xs : List α) (n : Nat) : Decidable (xs.length < n) := match h : ltLen xs n with
  | true => .isTrue (ltLen_iff.mp h)
  | false => .isFalse fun q => by rw [ltLen_iff.mpr q] at h; cases h
instance (priority := 100000) instLeLen {α : Type} (xs : List α) (n : Nat) : Decidable (xs.length ≤ n) := match h : leLen xs n with
  | true => .isTrue (leLen_iff.mp h)
  | false => .isFalse fun q => by rw [leLen_iff.mpr q] at h; cases h
instance (priority := 100000) instEqLen {α : Type} (xs : List α) (n : Nat) : Decidable (xs.length = n) := match h : eqLen xs n with
  | true => .isTrue (eqLen_iff.mp h)
  | false => .isFalse fun q => by rw [eqLen_iff.mpr q] at h; cases h
theorem beq_f {a b : Nat} (h : a ≠ b) : Nat.beq a b = false := by
  cases e : Nat.beq a b with
  | false => rfl
  | true => exact absurd (Nat.eq_of_beq_eq_true e) h
theorem beq_t {a b : Nat} (h : a = b) : Nat.beq a b = true := by subst h; exact Nat.beq_refl a
theorem Tr.get_zero (t : Tr) : t.get 0 = t.here := by cases t <;> rfl
theorem Tr.get_odd (t : Tr) {i : Nat} (h0 : i ≠ 0) (h : i % 2 = 1) : t.get i = t.le.get (i / 2) := by
  cases t with
  | e => simp [Tr.get, Tr.le]
  | n o l r => rw [Tr.get, beq_f h0, beq_t h]; rfl
theorem Tr.get_even (t : Tr) {i : Nat} (h0 : i ≠ 0) (h : i % 2 ≠ 1) : t.get i = t.ri.get (i / 2 - 1) := by
  cases t with
  | e => simp [Tr.get, Tr.ri]
  | n o l r => rw [Tr.get, beq_f h0, beq_f h]; rfl
theorem Tr.get_put : ∀ (f : Nat) (t : Tr) (i : Nat) (o : O) (j : Nat), i + 1 < 2 ^ f → (t.put f i o).get j = if j = i then some o else t.get j
  | 0, t, i, o, j, h => by simp at h
  | f + 1, t, i, o, j, h => by
    have hp : 2 ^ (f + 1) = 2 * 2 ^ f := by rw [Nat.pow_succ, Nat.mul_comm]
    by_cases hi : i = 0
    · subst hi
      have e : t.put (f + 1) 0 o = .n (some o) t.le t.ri := by rw [Tr.put_eq]; rfl
      rw [e]
      by_cases hj : j = 0
      · subst hj; simp [Tr.get]
      · rw [if_neg hj]
        by_cases hm : j % 2 = 1
        · rw [Tr.get_odd _ hj hm, Tr.get_odd _ hj hm]; rfl
        · rw [Tr.get_even _ hj hm, Tr.get_even _ hj hm]; rfl
    · by_cases hm : i % 2 = 1
      · have e : t.put (f + 1) i o = .n t.here (t.le.put f (i / 2) o) t.ri := by rw [Tr.put_eq, beq_f hi]; first | rw [beq_t hm]; rfl | rw [beq_f hm]; rfl
        rw [e]
        by_cases hj : j = 0
        · subst hj
          rw [if_neg (Ne.symm hi), Tr.get_zero, Tr.get_zero]; rfl
        · by_cases hn : j % 2 = 1
          · rw [Tr.get_odd _ hj hn, Tr.get_odd t hj hn]
            show (t.le.put f (i / 2) o).get (j / 2) = _
            rw [Tr.get_put f t.le (i / 2) o (j / 2) (by omega)]
            by_cases q : j = i
            · subst q; simp
            · rw [if_neg q, if_neg (by omega)]
          · rw [Tr.get_even _ hj hn, Tr.get_even t hj hn, if_neg (by omega)]; rfl
      · have e : t.put (f + 1) i o = .n t.here t.le (t.ri.put f (i / 2 - 1) o) := by rw [Tr.put_eq, beq_f hi]; first | rw [beq_t hm]; rfl | rw [beq_f hm]; rfl
        rw [e]
        by_cases hj : j = 0
        · subst hj
          rw [if_neg (Ne.symm hi), Tr.get_zero, Tr.get_zero]; rfl
        · by_cases hn : j % 2 = 1
          · rw [Tr.get_odd _ hj hn, Tr.get_odd t hj hn, if_neg (by omega)]; rfl
          · rw [Tr.get_even _ hj hn, Tr.get_even t hj hn]
            show (t.ri.put f (i / 2 - 1) o).get (j / 2 - 1) = _
            rw [Tr.get_put f t.ri (i / 2 - 1) o (j / 2 - 1) (by omega)]
            by_cases q : j = i
            · subst q; simp
            · rw [if_neg q, if_neg (by omega)]
theorem lt_pow (i : Nat) : i + 1 < 2 ^ (i + 1) := Nat.lt_two_pow_self

structure MH where
  n : Nat
  t : Tr
def MH.get (h : MH) (i : Nat) : Option O := h.t.get i
def MH.set (h : MH) (i : Nat) (o : O) : MH := ⟨h.n, h.t.put (i + 1) i o⟩
def MH.add (h : MH) (o : O) : MH := ⟨h.n + 1, h.t.put (h.n + 1) h.n o⟩
def MH.nil : MH := ⟨0, .e⟩
theorem MH.get_nil (i : Nat) : MH.nil.get i = none := rfl
theorem MH.get_set (h : MH) (i j : Nat) (o : O) : (h.set i o).get j = if j = i then some o else h.get j := Tr.get_put _ _ _ _ _ (lt_pow i)
theorem MH.get_add (h : MH) (j : Nat) (o : O) : (h.add o).get j = if j = h.n then some o else h.get j := Tr.get_put _ _ _ _ _ (lt_pow h.n)
@[simp] theorem MH.n_set (h : MH) (i : Nat) (o : O) : (h.set i o).n = h.n := rfl
@[simp] theorem MH.n_add (h : MH) (o : O) : (h.add o).n = h.n + 1 := rfl
@[simp] theorem MH.get_set_same (h : MH) (i : Nat) (o : O) : (h.set i o).get i = some o := by rw [MH.get_set, if_pos rfl]
theorem MH.get_set_ne (h : MH) {i j : Nat} (o : O) (e : j ≠ i) : (h.set i o).get j = h.get j := by rw [MH.get_set, if_neg e]
@[simp] theorem MH.get_add_same (h : MH) (o : O) : (h.add o).get h.n = some o := by rw [MH.get_add, if_pos rfl]
theorem MH.get_add_ne (h : MH) {j : Nat} (o : O) (e : j ≠ h.n) : (h.add o).get j = h.get j := by rw [MH.get_add, if_neg e]

/-! ### keys that are tuples -/
mutual
def nk : D → Option NestedKey
  | .non => some .none
  | .int i => some (.num i)
  | .tup xs => (nks xs).map .tup
  | _ => none
def nks : List D → Option (List NestedKey)
  | [] => some []
  | x :: xs => match nk x with
    | some k => (nks xs).map (k :: ·)
    | none => none
end
mutual
/-- hash, of a key without texts -/
def hz : NestedKey → Int
  | .none => reduceHash 0xFCA86420
  | .num i => hashInt i
  | .text _ => 0
  | .tup ks => reduceHash (Builtin.Tuple.tupleHashOf (hzs ks))
def hzs : List NestedKey → List Int
  | [] => []
  | k :: ks => hz k :: hzs ks
end
mutual
def nfree : NestedKey → Bool
  | .text _ => false
  | .tup ks => nfrees ks
  | _ => true
def nfrees : List NestedKey → Bool
  | [] => true
  | k :: ks => nfree k && nfrees ks
end
mutual
theorem hz_eq (w : World) : ∀ k : NestedKey, nfree k = true → k.hash w = hz k
  | .none, _ => rfl
  | .num i, _ => rfl
  | .text _, h => by simp [nfree] at h
  | .tup ks, h => by rw [NestedKey.hash, hz, hzs_eq w ks (by simpa [nfree] using h)]
theorem hzs_eq (w : World) : ∀ ks : List NestedKey, nfrees ks = true → NestedKey.hashes w ks = hzs ks
  | [], _ => rfl
  | k :: ks, h => by
    rw [nfrees, Bool.and_eq_true] at h
    rw [NestedKey.hashes, hzs, hz_eq w k h.1, hzs_eq w ks h.2]
end
mutual
theorem nk_free : ∀ {d : D} {k : NestedKey}, nk d = some k → nfree k = true
  | .non, _, e => by cases e; rfl
  | .int i, _, e => by cases e; rfl
  | .tup xs, _, e => by
    rw [nk, Option.map_eq_some_iff] at e
    obtain ⟨ks, e1, rfl⟩ := e
    exact nks_free e1
  | .bl _, _, e => nomatch e
  | .str _, _, e => nomatch e
  | .ref _, _, e => nomatch e
  | .ty _, _, e => nomatch e
  | .stat _, _, e => nomatch e
  | .rep _, _, e => nomatch e
theorem nks_free : ∀ {xs : List D} {ks : List NestedKey}, nks xs = some ks → nfrees ks = true
  | [], _, e => by cases e; rfl
  | x :: xs, _, e => by
    rw [nks] at e
    cases e1 : nk x with
    | none => rw [e1] at e; cases e
    | some k =>
      rw [e1] at e
      simp only [Option.map_eq_some_iff] at e
      obtain ⟨ks, e2, rfl⟩ := e
      rw [nfrees, nk_free e1, nks_free e2]; rfl
end
def entN (x : NestedKey × Addr × V) (v : Value) : DictEntry := ⟨hz x.1, .ref x.2.1, v⟩
/-- a dict with the keys and values xs -/
def dtP (a : Addr) (xs : List (NestedKey × Addr × V)) (h : Heap) : Prop := ∃ (o : Obj) (es : Array DictEntry) (ep : Nat) (ws : List Value), h.get? a = some o ∧ o.ExactDict ∧ o.data = .dict es ep ∧ Vals (xs.map (·.2.2)) ws ∧ es.toList = List.zipWith entN xs ws
def dtO (a : Addr) (xs : List (NestedKey × Addr × V)) : HO := .ext (dtP a xs)
/-- what is so of the entries, whatever the heap -/
structure DtOk (a : Addr) (xs : List (NestedKey × Addr × V)) : Prop where
  nd : (xs.map (·.1)).Nodup
  len : xs.length ≤ sizeLine
  low : (a == sysModules) = false
  dep : ∀ x ∈ xs, x.1.depth ≤ 8

/-! ### what is stood for -/
section
variable (K : PySem.W.Frag) (G : Nat → Option Addr)
mutual
inductive RD (ρ : List Addr) (H : Hp) : D → V → Prop
  | non : RD ρ H .non .non
  | bl (b : Bool) : RD ρ H (.bl b) (.bl b)
  | int (i : Int) : RD ρ H (.int i) (.int i)
  | str (x : Str) : RD ρ H (.str x) (.str x)
  | tup {a : Addr} {ds : List D} {xs : List V} : SqT K H a xs → RDs ρ H ds xs → RD ρ H (.tup ds) (.ref a)
  | ref {i : Nat} {a : Addr} : ρ[i]? = some a → RD ρ H (.ref i) (.ref a)
  | ty (n : Ty) : RD ρ H (.ty n) (.ty n.name)
  | rep (d : PyData) : RD ρ H (.rep d) (.str d.shown)
  | stat {n : Nat} {a : Addr} : G n = some a → RD ρ H (.stat n) (.ref a)
inductive RDs (ρ : List Addr) (H : Hp) : List D → List V → Prop
  | nil : RDs ρ H [] []
  | cons {d : D} {v : V} {ds : List D} {vs : List V} : RD ρ H d v → RDs ρ H ds vs → RDs ρ H (d :: ds) (v :: vs)
end
/-- attributes by name -/
inductive RFs {κ : Type} (ρ : List Addr) (H : Hp) : List (κ × D) → List (κ × V) → Prop
  | nil : RFs ρ H [] []
  | cons {f : κ} {d : D} {v : V} {ds : List (κ × D)} {vs : List (κ × V)} : RD K G ρ H d v → RFs ρ H ds vs → RFs ρ H ((f, d) :: ds) ((f, v) :: vs)
/-- entries whose keys are tuples -/
inductive RKs (ρ : List Addr) (H : Hp) : List (D × D) → List (NestedKey × Addr × V) → Prop
  | nil : RKs ρ H [] []
  | cons {d e : D} {k : NestedKey} {b : Addr} {v : V} {ds : List (D × D)} {vs : List (NestedKey × Addr × V)} : nk d = some k → RD K G ρ H d (.ref b) → RD K G ρ H e v → RKs ρ H ds vs → RKs ρ H ((d, e) :: ds) ((k, b, v) :: vs)
/-- a tuple that has no dict of its own -/
def NdT (H : Hp) (b : Addr) : Prop := ∃ o : Obj, o.dict = none ∧ o.cls = .type "tuple" ∧ ((∃ xs, H b = some (.frz o (.tup xs))) ∨ K.lookup b = some o)
abbrev plN : Str := "places"
/-- so is what an attribute of that name holds, if it holds a tuple -/
def NdF (H : Hp) (fs : List (Str × D)) (vs : List (Str × V)) : Prop := ∀ ds v, fs.lookup plN = some (.tup ds) → vs.lookup plN = some v → ∃ b, v = .ref b ∧ NdT K H b
def RO (ρ : List Addr) (H : Hp) (a : Addr) : O → Prop
  | .lst ds => ∃ xs, H a = some (.lst xs) ∧ RDs K G ρ H ds xs
  | .ro ds => ∃ o xs, H a = some (.frz o (.lst xs)) ∧ RDs K G ρ H ds xs
  | .kl ds => ∃ xs, (∀ H, SqL K H a xs) ∧ RDs K G ρ H ds xs
  | .ins C fs => ∃ c dx vs, G C = some c ∧ H a = some (.ins c dx vs) ∧ RFs K G ρ H fs vs ∧ NdF K H fs vs
  | .dct ks => ∃ vs, H a = some (.dK vs) ∧ RFs K G ρ H ks vs
  | .rct ks => ∃ o vs, H a = some (.frz o (.dK vs)) ∧ RFs K G ρ H ks vs
  | .dt ks => ∃ vs, H a = some (dtO a vs) ∧ DtOk a vs ∧ RKs K G ρ H ks vs
  | .rdt ks => ∃ o vs, H a = some (.frz o (dtO a vs)) ∧ DtOk a vs ∧ RKs K G ρ H ks vs
structure Rel (ρ : List Addr) (h : MH) (H : Hp) : Prop where
  len : ρ.length = h.n
  ob : ∀ (i : Nat) (o : O), h.get i = some o → ∃ a, ρ[i]? = some a ∧ RO K G ρ H a o
  full : ∀ (i : Nat) (a : Addr), ρ[i]? = some a → ∃ o, h.get i = some o
  inj : ∀ (i j : Nat) (a : Addr) (o u : O), h.get i = some o → h.get j = some u → o.isK = false → u.isK = false → ρ[i]? = some a → ρ[j]? = some a → i = j
/-- later: what was named still is, what is new was free; tuples stay; what was not named stays -/
structure Fut (ρ : List Addr) (H : Hp) (ρ' : List Addr) (H' : Hp) : Prop where
  pre : ∃ t, ρ' = ρ ++ t ∧ ∀ p ∈ t, H p = none
  tup : ∀ a xs, SqT K H a xs → SqT K H' a xs
  fr : ∀ a o, H a = some o → a ∉ ρ → H' a = some o
  keep : ∀ a, H' a = none → H a = none
  xd : ∀ a fs, H a = some (.xd fs) → H' a = some (.xd fs)
  frz : ∀ a o u, H a = some (.frz o u) → H' a = some (.frz o u)
end

section
variable {K : PySem.W.Frag} {G : Nat → Option Addr} {ρ ρ' ρ2 : List Addr} {H H' H2 : Hp} {h h' : MH}
theorem Fut.refl : Fut K ρ H ρ H := ⟨⟨[], by simp⟩, fun _ _ q => q, fun _ _ q _ => q, fun _ q => q, fun _ _ q => q, fun _ _ _ q => q⟩
theorem Fut.trans (a : Fut K ρ H ρ' H') (b : Fut K ρ' H' ρ2 H2) : Fut K ρ H ρ2 H2 := by
  obtain ⟨t, rfl, ht⟩ := a.pre
  obtain ⟨u, rfl, hu⟩ := b.pre
  refine ⟨⟨t ++ u, by simp, fun p hp => ?_⟩, fun c xs q => b.tup c xs (a.tup c xs q), fun c o q nc => ?_, fun c q => a.keep c (b.keep c q), fun c fs q => b.xd c fs (a.xd c fs q), fun c o u q => b.frz c o u (a.frz c o u q)⟩
  · rcases List.mem_append.mp hp with z | z
    · exact ht p z
    · exact a.keep p (hu p z)
  · refine b.fr c o (a.fr c o q nc) fun z => ?_
    rcases List.mem_append.mp z with z | z
    · exact nc z
    · rw [ht c z] at q; cases q
theorem Fut.at (f : Fut K ρ H ρ' H') {i : Nat} {a : Addr} (e : ρ[i]? = some a) : ρ'[i]? = some a := by
  obtain ⟨t, rfl, _⟩ := f.pre
  have hl : i < ρ.length := (List.getElem?_eq_some_iff.mp e).1
  rw [List.getElem?_append_left hl]; exact e
mutual
theorem RD.fut (f : Fut K ρ H ρ' H') : ∀ {d : D} {v : V}, RD K G ρ H d v → RD K G ρ' H' d v
  | _, _, .non => .non
  | _, _, .bl b => .bl b
  | _, _, .int i => .int i
  | _, _, .str x => .str x
  | _, _, .tup a b => .tup (f.tup _ _ a) (RDs.fut f b)
  | _, _, .ref e => .ref (f.at e)
  | _, _, .ty n => .ty n
  | _, _, .rep n => .rep n
  | _, _, .stat e => .stat e
theorem RDs.fut (f : Fut K ρ H ρ' H') : ∀ {d : List D} {v : List V}, RDs K G ρ H d v → RDs K G ρ' H' d v
  | _, _, .nil => .nil
  | _, _, .cons a b => .cons (RD.fut f a) (RDs.fut f b)
end
theorem RFs.fut {κ : Type} (f : Fut K ρ H ρ' H') : ∀ {d : List (κ × D)} {v : List (κ × V)}, RFs K G ρ H d v → RFs K G ρ' H' d v
  | _, _, .nil => .nil
  | _, _, .cons a b => .cons (a.fut f) (RFs.fut f b)
theorem RKs.fut (f : Fut K ρ H ρ' H') : ∀ {d : List (D × D)} {v : List (NestedKey × Addr × V)}, RKs K G ρ H d v → RKs K G ρ' H' d v
  | _, _, .nil => .nil
  | _, _, .cons e a b c => .cons e (a.fut f) (b.fut f) (RKs.fut f c)
theorem NdT.fut {b : Addr} (f : Fut K ρ H ρ' H') (h : NdT K H b) : NdT K H' b := by
  obtain ⟨o, h1, h2, h3⟩ := h
  exact ⟨o, h1, h2, h3.imp (fun ⟨xs, e⟩ => ⟨xs, f.frz _ _ _ e⟩) id⟩
theorem NdF.fut {fs : List (Str × D)} {vs : List (Str × V)} (f : Fut K ρ H ρ' H') (h : NdF K H fs vs) : NdF K H' fs vs := fun ds v e0 e => let ⟨b, e1, e2⟩ := h ds v e0 e; ⟨b, e1, e2.fut f⟩
theorem RDs.length : ∀ {d : List D} {v : List V}, RDs K G ρ H d v → d.length = v.length
  | _, _, .nil => rfl
  | _, _, .cons _ b => by simp [RDs.length b]
theorem RDs.get : ∀ {d : List D} {v : List V} {i : Nat} {x : D}, RDs K G ρ H d v → d[i]? = some x → ∃ y, v[i]? = some y ∧ RD K G ρ H x y
  | _, _, i, x, .nil, e => by simp at e
  | _, _, 0, x, .cons a b, e => by simp at e; subst e; exact ⟨_, by simp, a⟩
  | _, _, i + 1, x, .cons a b, e => by
    obtain ⟨y, h1, h2⟩ := RDs.get (i := i) (x := x) b (by simpa using e)
    exact ⟨y, by simpa using h1, h2⟩
theorem RDs.append : ∀ {d e : List D} {v w : List V}, RDs K G ρ H d v → RDs K G ρ H e w → RDs K G ρ H (d ++ e) (v ++ w)
  | _, _, _, _, .nil, b => b
  | _, _, _, _, .cons a c, b => .cons a (RDs.append c b)
theorem RDs.take : ∀ {d : List D} {v : List V} (n : Nat), RDs K G ρ H d v → RDs K G ρ H (d.take n) (v.take n)
  | _, _, 0, _ => .nil
  | _, _, n + 1, .nil => .nil
  | _, _, n + 1, .cons a b => .cons a (RDs.take n b)
theorem RDs.drop : ∀ {d : List D} {v : List V} (n : Nat), RDs K G ρ H d v → RDs K G ρ H (d.drop n) (v.drop n)
  | _, _, 0, r => r
  | _, _, n + 1, .nil => .nil
  | _, _, n + 1, .cons a b => RDs.drop n b
theorem RDs.set : ∀ {d : List D} {v : List V} (i : Nat) {x : D} {y : V}, RDs K G ρ H d v → RD K G ρ H x y → RDs K G ρ H (d.set i x) (v.set i y)
  | _, _, _, _, _, .nil, _ => .nil
  | _, _, 0, _, _, .cons a b, r => .cons r b
  | _, _, i + 1, _, _, .cons a b, r => .cons a (RDs.set i b r)
theorem RDs.rep {d : List D} {v : List V} (r : RDs K G ρ H d v) : ∀ n : Nat, RDs K G ρ H (List.replicate n d).flatten (List.replicate n v).flatten
  | 0 => .nil
  | n + 1 => by
    rw [List.replicate_succ, List.replicate_succ, List.flatten_cons, List.flatten_cons]
    exact r.append (RDs.rep r n)
theorem RDs.nil_iff {d : List D} {v : List V} (r : RDs K G ρ H d v) : d = [] ↔ v = [] := by
  cases r with
  | nil => simp
  | cons a b => simp
theorem RO.fut {a : Addr} {o : O} (f : Fut K ρ H ρ' H') (k : o.isK = false → H' a = H a) (r : RO K G ρ H a o) : RO K G ρ' H' a o := by
  cases o with
  | lst ds => obtain ⟨xs, e, q⟩ := r; exact ⟨xs, (k rfl).trans e, q.fut f⟩
  | ro ds => obtain ⟨o, xs, e, q⟩ := r; exact ⟨o, xs, (k rfl).trans e, q.fut f⟩
  | kl ds => obtain ⟨xs, e, q⟩ := r; exact ⟨xs, e, q.fut f⟩
  | ins C fs => obtain ⟨c, dx, vs, e0, e, q, nd⟩ := r; exact ⟨c, dx, vs, e0, (k rfl).trans e, q.fut f, nd.fut f⟩
  | dct ks => obtain ⟨vs, e, q⟩ := r; exact ⟨vs, (k rfl).trans e, q.fut f⟩
  | rct ks => obtain ⟨o, vs, e, q⟩ := r; exact ⟨o, vs, (k rfl).trans e, q.fut f⟩
  | dt ks => obtain ⟨vs, e, z, q⟩ := r; exact ⟨vs, (k rfl).trans e, z, q.fut f⟩
  | rdt ks => obtain ⟨o, vs, e, z, q⟩ := r; exact ⟨o, vs, (k rfl).trans e, z, q.fut f⟩
theorem RO.some {a : Addr} {o : O} (nk : o.isK = false) (r : RO K G ρ H a o) : ∃ u, H a = .some u := by
  cases o with
  | lst ds => obtain ⟨xs, e, q⟩ := r; exact ⟨_, e⟩
  | ro ds => obtain ⟨o, xs, e, q⟩ := r; exact ⟨_, e⟩
  | kl ds => cases nk
  | ins C fs => obtain ⟨c, dx, vs, e0, e, q, nd⟩ := r; exact ⟨_, e⟩
  | dct ks => obtain ⟨vs, e, q⟩ := r; exact ⟨_, e⟩
  | rct ks => obtain ⟨o, vs, e, q⟩ := r; exact ⟨_, e⟩
  | dt ks => obtain ⟨vs, e, z, q⟩ := r; exact ⟨_, e⟩
  | rdt ks => obtain ⟨o, vs, e, z, q⟩ := r; exact ⟨_, e⟩
/-- what is not a tuple may be changed -/
def NoTup (o : Option HO) : Prop := ∀ u : HO, o = .some u → (∀ xs, u ≠ .tup xs) ∧ (∀ b u', u ≠ .frz b u') ∧ ∀ fs, u ≠ .xd fs
theorem NoTup.none : NoTup none := fun _ e => nomatch e
theorem NoTup.lst (xs : List V) : NoTup (some (.lst xs)) := fun u e => by cases e; exact ⟨fun _ => HO.noConfusion, fun _ _ => HO.noConfusion, fun _ => HO.noConfusion⟩
theorem NoTup.dK (xs : List (L2.Key × V)) : NoTup (some (.dK xs)) := fun u e => by cases e; exact ⟨fun _ => HO.noConfusion, fun _ _ => HO.noConfusion, fun _ => HO.noConfusion⟩
theorem NoTup.dt (a : Addr) (xs : List (NestedKey × Addr × V)) : NoTup (some (dtO a xs)) := fun u e => by cases e; exact ⟨fun _ => HO.noConfusion, fun _ _ => HO.noConfusion, fun _ => HO.noConfusion⟩
theorem NoTup.ins {c dx : Addr} {fs : List (Str × V)} : NoTup (some (.ins c dx fs)) := fun u e => by cases e; exact ⟨fun _ => HO.noConfusion, fun _ _ => HO.noConfusion, fun _ => HO.noConfusion⟩
theorem sqT_upd {a b : Addr} {o : HO} {xs : List V} (n : NoTup (H b)) (q : SqT K H a xs) : SqT K (upd H b o) a xs := by
  rcases q with (e | ⟨u, e⟩) | e
  · have ne : a ≠ b := by rintro rfl; exact (n _ e).1 _ rfl
    exact .inl (.inl (by rw [upd_ne ne]; exact e))
  · have ne : a ≠ b := by rintro rfl; exact (n _ e).2.1 _ _ rfl
    exact .inl (.inr ⟨u, by rw [upd_ne ne]; exact e⟩)
  · exact .inr e
theorem upd_keep {b : Addr} {o : HO} : ∀ a, L2.upd H b o a = none → H a = none := fun a q => by
  by_cases h : a = b
  · subst h; rw [upd_same] at q; cases q
  · rw [upd_ne h] at q; exact q
theorem Fut.upd {b : Addr} {o : HO} (n : H b = none) : Fut K ρ H (ρ ++ [b]) (upd H b o) :=
  ⟨⟨[b], rfl, fun p hp => by rw [List.mem_singleton.mp hp]; exact n⟩, fun _ _ q => sqT_upd (by rw [n]; exact .none) q, fun a u q _ => by rw [upd_ne (ne_of_none q n)]; exact q, upd_keep, (fun a fs q => by rw [upd_ne (ne_of_none q n)]; exact q), fun a o u q => by rw [upd_ne (ne_of_none q n)]; exact q⟩
theorem Fut.updN {b : Addr} {o : HO} (n : H b = none) : Fut K ρ H ρ (L2.upd H b o) :=
  ⟨⟨[], by simp⟩, fun _ _ q => sqT_upd (by rw [n]; exact .none) q, fun a u q _ => by rw [upd_ne (ne_of_none q n)]; exact q, upd_keep, (fun a fs q => by rw [upd_ne (ne_of_none q n)]; exact q), fun a o u q => by rw [upd_ne (ne_of_none q n)]; exact q⟩
theorem Fut.updS {b : Addr} {o : HO} {i : Nat} (e : ρ[i]? = some b) (n : NoTup (H b)) : Fut K ρ H ρ (L2.upd H b o) :=
  ⟨⟨[], by simp⟩, fun _ _ q => sqT_upd n q, fun a u q na => by
    rw [upd_ne]
    · exact q
    · rintro rfl; exact na (List.mem_of_getElem? e), upd_keep, fun a fs q => by
    rw [upd_ne]
    · exact q
    · rintro rfl; exact (n _ q).2.2 _ rfl, fun a o u q => by
    rw [upd_ne]
    · exact q
    · rintro rfl; exact (n _ q).2.1 _ _ rfl⟩
theorem Rel.ne {i : Nat} {a p : Addr} {o : O} (r : Rel K G ρ h H) (q : h.get i = some o) (nk : o.isK = false) (e : ρ[i]? = some a) (n : H p = none) : a ≠ p := by
  obtain ⟨a', e', ro⟩ := r.ob i o q
  rw [e] at e'; cases e'
  obtain ⟨u, hu⟩ := ro.some nk
  rintro rfl
  rw [n] at hu; cases hu
theorem Rel.lt {i : Nat} {o : O} (r : Rel K G ρ h H) (e : h.get i = some o) : i < h.n := by
  obtain ⟨a, q, _⟩ := r.ob i o e
  rw [← r.len]
  exact (List.getElem?_eq_some_iff.mp q).1
/-- a new thing that is not named -/
theorem Rel.laid {p : Addr} {o : HO} (r : Rel K G ρ h H) (n : H p = none) : Rel K G ρ h (upd H p o) :=
  ⟨r.len, fun i ob e => by
    obtain ⟨a, q, ro⟩ := r.ob i ob e
    exact ⟨a, q, ro.fut (Fut.updN n) fun nk => upd_ne (r.ne e nk q n)⟩, r.full, r.inj⟩
/-- a new object -/
theorem Rel.new {p : Addr} {u : HO} {o : O} (r : Rel K G ρ h H) (n : H p = none) (nk : o.isK = false) (w : RO K G (ρ ++ [p]) (upd H p u) p o) : Rel K G (ρ ++ [p]) (h.add o) (upd H p u) := by
  have f : Fut K ρ H (ρ ++ [p]) (upd H p u) := Fut.upd n
  have at_new : (ρ ++ [p])[h.n]? = some p := by rw [← r.len]; simp
  have split : ∀ i a, (ρ ++ [p])[i]? = some a → (i = h.n ∧ a = p) ∨ (i ≠ h.n ∧ ρ[i]? = some a) := fun i a e => by
    by_cases hi : i = h.n
    · subst hi; rw [at_new] at e; cases e; exact .inl ⟨rfl, rfl⟩
    · refine .inr ⟨hi, ?_⟩
      have hl : i < (ρ ++ [p]).length := (List.getElem?_eq_some_iff.mp e).1
      rw [List.length_append, r.len] at hl
      simp at hl
      rw [List.getElem?_append_left (by rw [r.len]; omega)] at e
      exact e
  refine ⟨by simp [r.len], fun i ob e => ?_, fun i a e => ?_, fun i j a oi oj g1 g2 k1 k2 e1 e2 => ?_⟩
  · rw [MH.get_add] at e
    by_cases hi : i = h.n
    · rw [if_pos hi] at e; cases e
      exact ⟨p, by rw [hi]; exact at_new, w⟩
    · rw [if_neg hi] at e
      obtain ⟨a, q, ro⟩ := r.ob i ob e
      exact ⟨a, f.at q, ro.fut f fun nk => upd_ne (r.ne e nk q n)⟩
  · rw [MH.get_add]
    rcases split i a e with ⟨z, _⟩ | ⟨z, q⟩
    · rw [if_pos z]; exact ⟨_, rfl⟩
    · rw [if_neg z]; exact r.full i a q
  · rw [MH.get_add] at g1 g2
    rcases split i a e1 with ⟨z, y⟩ | ⟨z, q⟩
    · rcases split j a e2 with ⟨z', y'⟩ | ⟨z', q'⟩
      · rw [z, z']
      · rw [if_neg z'] at g2
        exact absurd y (r.ne g2 k2 q' n)
    · rw [if_neg z] at g1
      rcases split j a e2 with ⟨z', y'⟩ | ⟨z', q'⟩
      · exact absurd y' (r.ne g1 k1 q n)
      · rw [if_neg z'] at g2
        exact r.inj i j a oi oj g1 g2 k1 k2 q q'
/-- an object changes -/
theorem Rel.set {i : Nat} {a : Addr} {u : HO} {o o' : O} (r : Rel K G ρ h H) (g : h.get i = some o') (nk' : o'.isK = false) (nk : o.isK = false) (e : ρ[i]? = some a) (n : NoTup (H a)) (w : RO K G ρ (upd H a u) a o) : Rel K G ρ (h.set i o) (upd H a u) := by
  have f : Fut K ρ H ρ (upd H a u) := Fut.updS e n
  refine ⟨r.len, fun j ob q => ?_, fun j b q => ?_, fun x y b ox oy g1 g2 k1 k2 e1 e2 => ?_⟩
  · rw [MH.get_set] at q
    by_cases hj : j = i
    · rw [if_pos hj] at q; cases q
      exact ⟨a, by rw [hj]; exact e, w⟩
    · rw [if_neg hj] at q
      obtain ⟨b, eb, ro⟩ := r.ob j ob q
      refine ⟨b, eb, ro.fut f fun nk => upd_ne ?_⟩
      rintro rfl
      exact hj (r.inj _ _ _ _ _ q g nk nk' eb e)
  · rw [MH.get_set]
    by_cases hj : j = i
    · rw [if_pos hj]; exact ⟨_, rfl⟩
    · rw [if_neg hj]; exact r.full j b q
  · rw [MH.get_set] at g1 g2
    by_cases hx : x = i
    · by_cases hy : y = i
      · rw [hx, hy]
      · rw [if_neg hy] at g2
        subst hx
        exact r.inj _ _ _ _ _ g g2 nk' k2 e1 e2
    · rw [if_neg hx] at g1
      by_cases hy : y = i
      · subst hy
        exact r.inj _ _ _ _ _ g1 g k1 nk' e1 e2
      · rw [if_neg hy] at g2
        exact r.inj _ _ _ _ _ g1 g2 k1 k2 e1 e2
/-- a list's items -/
theorem Rel.lst {i : Nat} {ds : List D} (r : Rel K G ρ h H) (e : h.get i = some (.lst ds)) : ∃ a xs, ρ[i]? = some a ∧ H a = some (.lst xs) ∧ RDs K G ρ H ds xs := by
  obtain ⟨a, q, xs, w⟩ := r.ob i _ e
  exact ⟨a, xs, q, w⟩
end
/-- what may be read as a list -/
def MH.seq (h : MH) (i : Nat) : Option (List D) := match h.get i with
  | some (.lst xs) => some xs
  | some (.ro xs) => some xs
  | some (.kl xs) => some xs
  | _ => none
theorem Rel.seq {K : PySem.W.Frag} {G : Nat → Option Addr} {ρ : List Addr} {H : Hp} {h : MH} {i : Nat} {ds : List D} (r : Rel K G ρ h H) (e : h.seq i = some ds) : ∃ a xs, ρ[i]? = some a ∧ SqL K H a xs ∧ RDs K G ρ H ds xs := by
  unfold MH.seq at e
  split at e
  · rename_i xs q; cases e
    obtain ⟨a, ys, e1, e2, e3⟩ := r.lst q
    exact ⟨a, ys, e1, .of e2, e3⟩
  · rename_i xs q; cases e
    obtain ⟨a, e1, o, ys, e2, e3⟩ := r.ob i _ q
    exact ⟨a, ys, e1, .inl (.inr ⟨o, e2⟩), e3⟩
  · rename_i xs q; cases e
    obtain ⟨a, e1, ys, e2, e3⟩ := r.ob i _ q
    exact ⟨a, ys, e1, e2 H, e3⟩
  · cases e
end MM

set_option Elab.async false
set_option linter.all false
set_option maxRecDepth 100000
set_option maxHeartbeats 4000000
set_option autoImplicit false
/-! expressions: what they yield, and that the text yields it -/
namespace MM
open PySem PySem.Spec PyProof.Rows L2

/-- the local names' values -/
abbrev ME := List (Option D)
inductive Res (α : Type) where
  | ok (a : α) (h : MH) | exc (C : Nat) (fs : List (Str × D)) (h : MH) | bad
def Res.bind {α β : Type} (r : Res α) (f : α → MH → Res β) : Res β := match r with
  | .ok a h => f a h
  | .exc C fs h => .exc C fs h
  | .bad => .bad
@[simp] theorem Res.bind_ok {α β : Type} (a : α) (h : MH) (f : α → MH → Res β) : (Res.ok a h).bind f = f a h := rfl
@[simp] theorem Res.bind_exc {α β : Type} (C : Nat) (fs : List (Str × D)) (h : MH) (f : α → MH → Res β) : (Res.exc C fs h).bind f = .exc C fs h := rfl
@[simp] theorem Res.bind_bad {α β : Type} (f : α → MH → Res β) : (Res.bad : Res α).bind f = .bad := rfl
def ofOpt {α : Type} : Option (α × MH) → Res α
  | some (a, h) => .ok a h
  | none => .bad
@[simp] theorem ofOpt_some {α : Type} (p : α × MH) : ofOpt (some p) = .ok p.1 p.2 := rfl
@[simp] theorem ofOpt_none {α : Type} : ofOpt (none : Option (α × MH)) = .bad := rfl
/-- a value that needs no memory -/
def keep {α : Type} (h : MH) : Option α → Option (α × MH)
  | some a => some (a, h)
  | none => none
@[simp] theorem keep_some {α : Type} (h : MH) (a : α) : keep h (some a) = some (a, h) := rfl
@[simp] theorem keep_none {α : Type} (h : MH) : keep h (none : Option α) = none := rfl
abbrev Mx := ME → MH → Res D
abbrev Mt := ME → MH → Res Bool
abbrev Ma := ME → MH → Res (List D)

section
variable (K : PySem.W.Frag) (G : Nat → Option Addr)
/-- an exception's own dict: none, or its fields -/
def RX (ρ : List Addr) (H : Hp) (fs : List (Str × D)) (d : Option Addr) : Prop := (d = none ∧ fs = []) ∨ ∃ dd vs, d = some dd ∧ H dd = some (.xd vs) ∧ RFs K G ρ H fs vs
structure REnv (ρ : List Addr) (H : Hp) (env : ME) (σ : L2.St) : Prop where
  len : env.length = σ.length
  at_ : ∀ (i : Nat) (d : D), env[i]? = some (some d) → ∃ v, σ[i]? = some (some v) ∧ RD K G ρ H d v
/-- what follows a result -/
def Wp {α β : Type} (RA : List Addr → Hp → α → β → Prop) (ρ : List Addr) (H : Hp) (r : Res α) (Q : β → Hp → Prop) (E : XK) : Prop := match r with
  | .ok a h' => ∀ (ρ' : List Addr) (H' : Hp) (b : β), Fut K ρ H ρ' H' → Rel K G ρ' h' H' → RA ρ' H' a b → Q b H'
  | .exc C fs h' => ∀ (ρ' : List Addr) (H' : Hp) (c : Addr) (d : Option Addr), G C = some c → Fut K ρ H ρ' H' → Rel K G ρ' h' H' → RX K G ρ' H' fs d → E (.ref c) d H'
  | .bad => False
def RdE (W : WX) (m : Mx) : TE := fun σ H Q => ∃ (ρ : List Addr) (h : MH) (env : ME), Rel K G ρ h H ∧ REnv K G ρ H env σ ∧ Wp K G (RD K G) ρ H (m env h) Q (fun c d H' => W c d σ H')
def RdT (W : WX) (m : Mt) : TT := fun σ H Q => ∃ (ρ : List Addr) (h : MH) (env : ME), Rel K G ρ h H ∧ REnv K G ρ H env σ ∧ Wp K G (fun _ _ a b => a = b) ρ H (m env h) Q (fun c d H' => W c d σ H')
def RdA (W : WX) (m : Ma) : TA := fun σ H Q => ∃ (ρ : List Addr) (h : MH) (env : ME), Rel K G ρ h H ∧ REnv K G ρ H env σ ∧ Wp K G (RDs K G) ρ H (m env h) Q (fun c d H' => W c d σ H')
/-- a two-place operation on values -/
def rOp (f : D → D → MH → Option (D × MH)) : R2 := fun x y H Q => ∃ (ρ : List Addr) (h : MH) (a b v : D) (h' : MH), Rel K G ρ h H ∧ RD K G ρ H a x ∧ RD K G ρ H b y ∧ f a b h = some (v, h') ∧
  ∀ (ρ' : List Addr) (H' : Hp) (v' : V), Fut K ρ H ρ' H' → Rel K G ρ' h' H' → RD K G ρ' H' v v' → Q v' H'
/-- a call of a built-in thing with values -/
def rCall (f : List D → MH → Option (D × MH)) : List V → Hp → VK → Prop := fun xs H Q => ∃ (ρ : List Addr) (h : MH) (ds : List D) (v : D) (h' : MH), Rel K G ρ h H ∧ RDs K G ρ H ds xs ∧ f ds h = some (v, h') ∧
  ∀ (ρ' : List Addr) (H' : Hp) (v' : V), Fut K ρ H ρ' H' → Rel K G ρ' h' H' → RD K G ρ' H' v v' → Q v' H'
end

section
variable {K : PySem.W.Frag} {G : Nat → Option Addr} {ρ ρ' : List Addr} {H H' : Hp} {h h' : MH} {env : ME} {σ : L2.St}
theorem REnv.fut (r : REnv K G ρ H env σ) (f : Fut K ρ H ρ' H') : REnv K G ρ' H' env σ := ⟨r.len, fun i d e => by
  obtain ⟨v, q, w⟩ := r.at_ i d e
  exact ⟨v, q, w.fut f⟩⟩
theorem REnv.set {i : Nat} {d : D} {v : V} (r : REnv K G ρ H env σ) (w : RD K G ρ H d v) : REnv K G ρ H (env.set i (some d)) (σ.set i (some v)) := by
  refine ⟨by simp [r.len], fun j x e => ?_⟩
  by_cases hj : i = j
  · subst hj
    have hl : i < env.length := by
      have := (List.getElem?_eq_some_iff.mp e).1
      simpa using this
    rw [List.getElem?_set_self hl] at e
    cases e
    exact ⟨v, by rw [List.getElem?_set_self (by rw [← r.len]; exact hl)], w⟩
  · rw [List.getElem?_set_ne hj] at e
    obtain ⟨u, q, w'⟩ := r.at_ j x e
    exact ⟨u, by rw [List.getElem?_set_ne hj]; exact q, w'⟩
theorem REnv.unset {i : Nat} (r : REnv K G ρ H env σ) : REnv K G ρ H (env.set i none) σ := by
  refine ⟨by simp [r.len], fun j x e => ?_⟩
  by_cases hj : i = j
  · subst hj
    have hl : i < env.length := by
      have := (List.getElem?_eq_some_iff.mp e).1
      simpa using this
    rw [List.getElem?_set_self hl] at e
    cases e
  · rw [List.getElem?_set_ne hj] at e
    exact r.at_ j x e
theorem REnv.unset2 {i : Nat} (r : REnv K G ρ H env σ) : REnv K G ρ H (env.set i none) (σ.set i none) := by
  refine ⟨by simp [r.len], fun j x e => ?_⟩
  by_cases hj : i = j
  · subst hj
    have hl : i < env.length := by
      have := (List.getElem?_eq_some_iff.mp e).1
      simpa using this
    rw [List.getElem?_set_self hl] at e
    cases e
  · rw [List.getElem?_set_ne hj] at e
    obtain ⟨u, q, w'⟩ := r.at_ j x e
    exact ⟨u, by rw [List.getElem?_set_ne hj]; exact q, w'⟩
variable {α β α' β' : Type} {RA : List Addr → Hp → α → β → Prop} {RB : List Addr → Hp → α' → β' → Prop}
theorem Wp.fut {r : Res α} {Q : β → Hp → Prop} {E : XK} (f : Fut K ρ H ρ' H') (w : Wp K G RA ρ H r Q E) : Wp K G RA ρ' H' r Q E := by
  cases r with
  | ok a h1 => exact fun ρ2 H2 b f2 => w ρ2 H2 b (f.trans f2)
  | exc C fs h1 => exact fun ρ2 H2 c d e f2 => w ρ2 H2 c d e (f.trans f2)
  | bad => exact w
theorem Wp.bind {r : Res α} {f : α → MH → Res α'} {Q1 : β → Hp → Prop} {Q : β' → Hp → Prop} {E : XK} (w : Wp K G RB ρ H (r.bind f) Q E)
    (k : ∀ (a : α) (h1 : MH) (ρ1 : List Addr) (H1 : Hp) (b : β), Fut K ρ H ρ1 H1 → Rel K G ρ1 h1 H1 → RA ρ1 H1 a b → Wp K G RB ρ1 H1 (f a h1) Q E → Q1 b H1) : Wp K G RA ρ H r Q1 E := by
  cases r with
  | ok a h1 => exact fun ρ1 H1 b f1 r1 q1 => k a h1 ρ1 H1 b f1 r1 q1 (Wp.fut f1 w)
  | exc C fs h1 => exact w
  | bad => exact w
theorem Wp.ret {a : α} {b : β} {Q : β → Hp → Prop} {E : XK} (w : Wp K G RA ρ H (.ok a h) Q E) (r : Rel K G ρ h H) (q : RA ρ H a b) : Q b H := w ρ H b .refl r q
end

section
variable {X : Cx} {G : Nat → Option Addr} {W : WX} {e a b c : Expr} {es : List Expr} {pos : Pos}
theorem PE.imp {t t' : TE} (p : PE X e t) (k : ∀ σ H Q, t' σ H Q → t σ H Q) : PE X e t' := ⟨fun pins s σ H Q I q => p.run pins s σ H Q I (k _ _ _ q)⟩
theorem PT.imp {t t' : TT} (p : PT X e t) (k : ∀ σ H Q, t' σ H Q → t σ H Q) : PT X e t' := ⟨fun pins s σ H Q I q => p.run pins s σ H Q I (k _ _ _ q)⟩
theorem PW.imp {t t' : TT} (p : PW X e t) (k : ∀ σ H Q, t' σ H Q → t σ H Q) : PW X e t' := ⟨fun wh pins s σ H Q I q => p.run wh pins s σ H Q I (k _ _ _ q)⟩
theorem PA.imp {t t' : TA} (p : PA X es t) (k : ∀ σ H Q, t' σ H Q → t σ H Q) : PA X es t' := ⟨fun ps pins s σ H Q I q => p.run ps pins s σ H Q I (k _ _ _ q)⟩

/-! ### names, constants -/
def eVar (i : Nat) : Mx := fun env h => match env[i]? with
  | some (some d) => .ok d h
  | _ => .bad
def eC (d : D) : Mx := fun _ h => .ok d h
theorem me_var (i : Nat) {x : Str} (hN : X.N[i]? = some x := by rfl) (hv : Vis X.env.scope x := by first | exact Or.inl rfl | exact Or.inr (Or.inl rfl) | exact Or.inr (Or.inr rfl)) (hd : (x == ("__debug__" : Str)) = false := by decide)
    (hcd : (x == ("__classdict__" : Str)) = false := by decide) : PE X (.Name x pos) (RdE X.K G W (eVar i)) := by
  refine PE.imp (pe_var hN hv hd hcd) fun σ H Q q => ?_
  obtain ⟨ρ, h, env, r, re, w⟩ := q
  unfold eVar at w
  split at w
  · rename_i d ed
    obtain ⟨v, e1, e2⟩ := re.at_ i d ed
    exact ⟨v, e1, w.ret r e2⟩
  · exact w.elim
theorem me_of_c {t : TE} {d : D} {v : V} (p : PE X e t) (ht : ∀ σ H Q, Q v H → t σ H Q) (hr : ∀ ρ H, RD X.K G ρ H d v) : PE X e (RdE X.K G W (eC d)) :=
  PE.imp p fun σ H Q ⟨ρ, h, env, r, re, w⟩ => ht σ H Q (w.ret r (hr ρ H))
theorem me_int {i j} : PE X (.Constant (.int i) j pos) (RdE X.K G W (eC (.int i))) := me_of_c (v := .int i) pe_int (fun _ _ _ q => q) fun _ _ => .int i
theorem me_bl {i j} : PE X (.Constant (.bool i) j pos) (RdE X.K G W (eC (.bl i))) := me_of_c (v := .bl i) pe_bl (fun _ _ _ q => q) fun _ _ => .bl i
theorem me_non {j} : PE X (.Constant .none j pos) (RdE X.K G W (eC .non)) := me_of_c (v := .non) pe_non (fun _ _ _ q => q) fun _ _ => .non
theorem me_str {x j} : PE X (.Constant (.str x) j pos) (RdE X.K G W (eC (.str x))) := me_of_c (v := .str x) pe_str (fun _ _ _ q => q) fun _ _ => .str x
/-- a module's own number -/
theorem me_globI {x : Str} {i : Int} {u : Value} (hg : Gl X x) (hm : X.mg x = some u) (hr : RelV (.int i) u) (hd : (x == ("__debug__" : Str)) = false := by decide) : PE X (.Name x pos) (RdE X.K G W (eC (.int i))) :=
  me_of_c (v := .int i) (pe_glob hg hm hr hd) (fun _ _ _ q => q) fun _ _ => .int i
/-- a built-in class as a value -/
theorem me_ty {x : Str} (T : Ty) (hg : Gl X x) (hm : X.mg x = none) (hv : bootBuiltins x = some (.type T.name)) (hn : x ≠ "__name__" := by decide) (hd : (x == ("__debug__" : Str)) = false := by decide) : PE X (.Name x pos) (RdE X.K G W (eC (.ty T))) :=
  me_of_c (v := .ty T.name) (pe_bltn (v := .ty T.name) hg hm hv (show RelV (.ty T.name) (.type T.name) from rfl) hn hd) (fun _ _ _ q => q) fun _ _ => .ty T
/-- a class or a def of the module as a value -/
theorem me_stat {x : Str} {n : Nat} {c : Addr} (hg : Gl X x) (hm : X.mg x = some (.ref c)) (hG : G n = some c) (hd : (x == ("__debug__" : Str)) = false := by decide) : PE X (.Name x pos) (RdE X.K G W (eC (.stat n))) :=
  me_of_c (v := .ref c) (pe_glob (v := .ref c) hg hm (show RelV (.ref c) (.ref c) from rfl) hd) (fun _ _ _ q => q) fun _ _ => .stat hG

/-! ### operators -/
def OpOK (X : Cx) (G : Nat → Option Addr) (F : Value → Value → Sem Value) (f : D → D → MH → Option (D × MH)) : Prop := OpR X F (rOp X.K G f)
def eOp (f : D → D → MH → Option (D × MH)) (ma mb : Mx) : Mx := fun env h => (ma env h).bind fun x h1 => (mb env h1).bind fun y h2 => ofOpt (f x y h2)
theorem Wp.opt {K : PySem.W.Frag} {ρ : List Addr} {H : Hp} {r : Option (D × MH)} {Q : VK} {E : XK} (w : Wp K G (RD K G) ρ H (ofOpt r) Q E) :
    ∃ v h', r = some (v, h') ∧ ∀ (ρ' : List Addr) (H' : Hp) (v' : V), Fut K ρ H ρ' H' → Rel K G ρ' h' H' → RD K G ρ' H' v v' → Q v' H' := by
  cases r with
  | none => exact w.elim
  | some p => exact ⟨p.1, p.2, rfl, w⟩
theorem two_op {f : D → D → MH → Option (D × MH)} {ma mb : Mx} {σ : L2.St} {H : Hp} {Q : VK} (q : RdE X.K G W (eOp f ma mb) σ H Q) : tOp (rOp X.K G f) (RdE X.K G W ma) (RdE X.K G W mb) σ H Q := by
  obtain ⟨ρ, h, env, r, re, w⟩ := q
  refine ⟨ρ, h, env, r, re, Wp.bind w fun x h1 ρ1 H1 vx f1 r1 q1 w1 => ?_⟩
  refine ⟨ρ1, h1, env, r1, re.fut f1, Wp.bind w1 fun y h2 ρ2 H2 vy f2 r2 q2 w2 => ?_⟩
  obtain ⟨v, h', e, k⟩ := w2.opt
  exact ⟨ρ2, h2, x, y, v, h', r2, q1.fut f2, q2, e, k⟩
theorem me_op {op : Operator} {f : D → D → MH → Option (D × MH)} {ma mb : Mx} (ho : OpOK X G (binaryOp op) f) (ha : PE X a (RdE X.K G W ma)) (hb : PE X b (RdE X.K G W mb)) : PE X (.BinOp a op b pos) (RdE X.K G W (eOp f ma mb)) :=
  PE.imp (pe_op ho ha hb) fun _ _ _ q => two_op q
theorem me_cmp {op : CmpOp} {f : D → D → MH → Option (D × MH)} {ma mb : Mx} (ho : OpOK X G (compareOp op) f) (ha : PE X a (RdE X.K G W ma)) (hb : PE X b (RdE X.K G W mb)) (hm : behindInMarks op b = false := by first | exact nomark _ (by decide) (by decide) | rfl) :
    PE X (.Compare a [op] [b] pos) (RdE X.K G W (eOp f ma mb)) := PE.imp (pe_cmpR ho ha hb hm) fun _ _ _ q => two_op q
/-- a < b < c -/
def isB (x : D) : Option Bool := match x with
  | .bl k => some k
  | _ => none
def eChain (f f' : D → D → MH → Option (D × MH)) (ma mb mc : Mx) : Mx := fun env h => (ma env h).bind fun x h1 => (mb env h1).bind fun y h2 => (ofOpt (f x y h2)).bind fun z h3 =>
  match isB z with
  | some true => (mc env h3).bind fun u h4 => ofOpt (f' y u h4)
  | some false => .ok (.bl false) h3
  | none => .bad
theorem rd_isB {K : PySem.W.Frag} {ρ : List Addr} {H : Hp} {z : D} {v : V} {k : Bool} (r : RD K G ρ H z v) (e : isB z = some k) : z = .bl k ∧ v = .bl k := by
  cases z with
  | bl j => cases e; cases r; exact ⟨rfl, rfl⟩
  | _ => cases e
theorem me_chain {op op' : CmpOp} {f f' : D → D → MH → Option (D × MH)} {ma mb mc : Mx} (ho : OpOK X G (compareOp op) f) (ho' : OpOK X G (compareOp op') f') (ha : PE X a (RdE X.K G W ma)) (hb : PE X b (RdE X.K G W mb)) (hc : PE X c (RdE X.K G W mc)) (hm : lastMarks [op, op'] [b, c] = false := by with_unfolding_all rfl) : PE X (.Compare a [op, op'] [b, c] pos) (RdE X.K G W (eChain f f' ma mb mc)) := by
  refine PE.imp (pe_chain ho ho' ha hb hc hm) fun σ H Q q => ?_
  obtain ⟨ρ, h, env, r, re, w⟩ := q
  refine ⟨ρ, h, env, r, re, Wp.bind w fun x h1 ρ1 H1 vx f1 r1 q1 w1 => ?_⟩
  refine ⟨ρ1, h1, env, r1, re.fut f1, Wp.bind w1 fun y h2 ρ2 H2 vy f2 r2 q2 w2 => ?_⟩
  obtain ⟨v, h3, e, k⟩ := (Wp.bind (RA := RD X.K G) (Q1 := fun _ _ => True) w2 fun _ _ _ _ _ _ _ _ _ => trivial).opt
  rw [e] at w2
  refine ⟨ρ2, h2, x, y, v, h3, r2, q1.fut f2, q2, e, fun ρ3 H3 v3 f3 r3 q3 => ?_⟩
  have w3 := Wp.fut f3 w2
  simp only [ofOpt_some, Res.bind_ok] at w3
  cases ez : isB v with
  | none => rw [ez] at w3; exact w3.elim
  | some kb =>
    rw [ez] at w3
    obtain ⟨rfl, rfl⟩ := rd_isB q3 ez
    refine ⟨kb, rfl, ?_⟩
    cases kb with
    | false => exact w3.ret r3 (.bl false)
    | true =>
      refine ⟨ρ3, h3, env, r3, (re.fut f1).fut (f2.trans f3), Wp.bind w3 fun u h4 ρ4 H4 vu f4 r4 q4 w4 => ?_⟩
      obtain ⟨v5, h5, e5, k5⟩ := w4.opt
      exact ⟨ρ4, h4, y, u, v5, h5, r4, (q2.fut f3).fut f4, q4, e5, k5⟩

/-! ### truth, tests -/
def truD (h : MH) : D → Option Bool
  | .non => some false
  | .bl b => some b
  | .int i => some (i != 0)
  | .str x => if x.length ≤ sizeLine then some ((x.length : Int) != 0) else none
  | .tup xs => some (!xs.isEmpty)
  | .ref i => (h.seq i).map fun xs => !xs.isEmpty
  | _ => none
theorem RDs.isEmpty {K : PySem.W.Frag} {ρ : List Addr} {H : Hp} {ds : List D} {xs : List V} (r : RDs K G ρ H ds xs) : ds.isEmpty = xs.isEmpty := by cases r <;> rfl
theorem truD_ok {K : PySem.W.Frag} {ρ : List Addr} {H : Hp} {h : MH} {d : D} {x : V} {k : Bool} (R : Rel K G ρ h H) (r : RD K G ρ H d x) (e : truD h d = some k) : TruV K x H k := by
  cases r with
  | non => cases e; rfl
  | bl b => cases e; rfl
  | int i => cases e; rfl
  | str y =>
    simp only [truD] at e
    split at e
    · cases e; exact ⟨by assumption, rfl⟩
    · cases e
  | tup hs hr => cases e; exact .inr (.inl ⟨_, hs, by rw [hr.isEmpty]⟩)
  | @ref i a ha =>
    simp only [truD, Option.map_eq_some_iff] at e
    obtain ⟨ds, e1, e2⟩ := e
    obtain ⟨a', ys, q1, q2, q3⟩ := R.seq e1
    rw [ha] at q1; cases q1
    exact .inl ⟨ys, q2, by rw [← e2, q3.isEmpty]⟩
  | ty n => cases e
  | stat e' => cases e
  | rep d => cases e
def tTruth (m : Mx) : Mt := fun env h => (m env h).bind fun x h1 => match truD h1 x with
  | some k => .ok k h1
  | none => .bad
def tBl (m : Mx) : Mt := fun env h => (m env h).bind fun x h1 => match isB x with
  | some k => .ok k h1
  | none => .bad
def tNotM (t : Mt) : Mt := fun env h => (t env h).bind fun k h1 => .ok (!k) h1
def tAndM (a b : Mt) : Mt := fun env h => (a env h).bind fun k h1 => match k with
  | true => b env h1
  | false => .ok false h1
def tOrM (a b : Mt) : Mt := fun env h => (a env h).bind fun k h1 => match k with
  | true => .ok true h1
  | false => b env h1
theorem mt_truth {m : Mx} (ha : PE X a (RdE X.K G W m)) (he : ∀ whole, isTrue a X.env whole = (do let v ← whole; standAt a.pos; holding [v] (truthy v)) := by intro _; rfl) : PT X a (RdT X.K G W (tTruth m)) := by
  refine PT.imp (pt_truth ha he) fun σ H Q q => ?_
  obtain ⟨ρ, h, env, r, re, w⟩ := q
  refine ⟨ρ, h, env, r, re, Wp.bind w fun x h1 ρ1 H1 vx f1 r1 q1 w1 => ?_⟩
  cases e : truD h1 x with
  | none => rw [e] at w1; exact w1.elim
  | some k => rw [e] at w1; exact ⟨k, truD_ok r1 q1 e, w1.ret r1 rfl⟩
theorem to_bl {m : Mx} {σ : L2.St} {H : Hp} {Q : Bool → Hp → Prop} (q : RdT X.K G W (tBl m) σ H Q) : tTest (RdE X.K G W m) σ H Q := by
  obtain ⟨ρ, h, env, r, re, w⟩ := q
  refine ⟨ρ, h, env, r, re, Wp.bind w fun x h1 ρ1 H1 vx f1 r1 q1 w1 => ?_⟩
  cases e : isB x with
  | none => rw [e] at w1; exact w1.elim
  | some k =>
    rw [e] at w1
    obtain ⟨rfl, rfl⟩ := rd_isB q1 e
    exact ⟨k, rfl, w1.ret r1 rfl⟩
theorem mt_cmp {op : CmpOp} {f : D → D → MH → Option (D × MH)} {ma mb : Mx} (ho : OpOK X G (compareOp op) f) (ha : PE X a (RdE X.K G W ma)) (hb : PE X b (RdE X.K G W mb)) (hm : behindInMarks op b = false := by first | exact nomark _ (by decide) (by decide) | rfl) :
    PT X (.Compare a [op] [b] pos) (RdT X.K G W (tBl (eOp f ma mb))) := by
  refine PT.imp (pt_cmpR ho ha hb hm) fun σ H Q q => ?_
  obtain ⟨ρ, h, env, r, re, w⟩ := to_bl q
  exact two_op ⟨ρ, h, env, r, re, w⟩
theorem ch_rd {f f' : D → D → MH → Option (D × MH)} {ma mb mc : Mx} {σ : L2.St} {H : Hp} {Q : VK} (q : RdE X.K G W (eChain f f' ma mb mc) σ H Q) : tChain (rOp X.K G f) (rOp X.K G f') (RdE X.K G W ma) (RdE X.K G W mb) (RdE X.K G W mc) σ H Q := by
  obtain ⟨ρ, h, env, r, re, w⟩ := q
  refine ⟨ρ, h, env, r, re, Wp.bind w fun x h1 ρ1 H1 vx f1 r1 q1 w1 => ?_⟩
  refine ⟨ρ1, h1, env, r1, re.fut f1, Wp.bind w1 fun y h2 ρ2 H2 vy f2 r2 q2 w2 => ?_⟩
  obtain ⟨v, h3, e, k⟩ := (Wp.bind (RA := RD X.K G) (Q1 := fun _ _ => True) w2 fun _ _ _ _ _ _ _ _ _ => trivial).opt
  rw [e] at w2
  refine ⟨ρ2, h2, x, y, v, h3, r2, q1.fut f2, q2, e, fun ρ3 H3 v3 f3 r3 q3 => ?_⟩
  have w3 := Wp.fut f3 w2
  simp only [ofOpt_some, Res.bind_ok] at w3
  cases ez : isB v with
  | none => rw [ez] at w3; exact w3.elim
  | some kb =>
    rw [ez] at w3
    obtain ⟨rfl, rfl⟩ := rd_isB q3 ez
    refine ⟨kb, rfl, ?_⟩
    cases kb with
    | false => exact w3.ret r3 (.bl false)
    | true =>
      refine ⟨ρ3, h3, env, r3, (re.fut f1).fut (f2.trans f3), Wp.bind w3 fun u h4 ρ4 H4 vu f4 r4 q4 w4 => ?_⟩
      obtain ⟨v5, h5, e5, k5⟩ := w4.opt
      exact ⟨ρ4, h4, y, u, v5, h5, r4, (q2.fut f3).fut f4, q4, e5, k5⟩
theorem mt_chain {op op' : CmpOp} {f f' : D → D → MH → Option (D × MH)} {ma mb mc : Mx} (ho : OpOK X G (compareOp op) f) (ho' : OpOK X G (compareOp op') f') (ha : PE X a (RdE X.K G W ma)) (hb : PE X b (RdE X.K G W mb)) (hc : PE X c (RdE X.K G W mc))
    (hm : lastMarks [op, op'] [b, c] = false := by with_unfolding_all rfl) : PT X (.Compare a [op, op'] [b, c] pos) (RdT X.K G W (tBl (eChain f f' ma mb mc))) := by
  refine PT.imp (pt_chain ho ho' ha hb hc hm) fun σ H Q q => ?_
  obtain ⟨ρ, h, env, r, re, w⟩ := to_bl q
  exact ch_rd ⟨ρ, h, env, r, re, w⟩
theorem mt_not {t : Mt} (ha : PT X a (RdT X.K G W t)) : PT X (.UnaryOp .Not a pos) (RdT X.K G W (tNotM t)) := by
  refine PT.imp (pt_not ha) fun σ H Q q => ?_
  obtain ⟨ρ, h, env, r, re, w⟩ := q
  exact ⟨ρ, h, env, r, re, Wp.bind w fun x h1 ρ1 H1 vx f1 r1 q1 w1 => q1 ▸ w1.ret r1 rfl⟩
section
variable {rest : List Expr}
theorem mw_and1 {t : Mt} (ha : PT X a (RdT X.K G W t)) : PW X (.BoolOp .And [a] pos) (RdT X.K G W t) := pw_and1 ha
theorem mw_or1 {t : Mt} (ha : PT X a (RdT X.K G W t)) : PW X (.BoolOp .Or [a] pos) (RdT X.K G W t) := pw_or1 ha
theorem mw_and {t u : Mt} (ha : PT X a (RdT X.K G W t)) (hb : PW X (.BoolOp .And (b :: rest) pos) (RdT X.K G W u)) : PW X (.BoolOp .And (a :: b :: rest) pos) (RdT X.K G W (tAndM t u)) := by
  refine PW.imp (pw_and ha hb) fun σ H Q q => ?_
  obtain ⟨ρ, h, env, r, re, w⟩ := q
  refine ⟨ρ, h, env, r, re, Wp.bind w fun x h1 ρ1 H1 k f1 r1 q1 w1 => ?_⟩
  subst q1
  cases x with
  | true => exact ⟨ρ1, h1, env, r1, re.fut f1, w1⟩
  | false => exact w1.ret r1 rfl
theorem mw_or {t u : Mt} (ha : PT X a (RdT X.K G W t)) (hb : PW X (.BoolOp .Or (b :: rest) pos) (RdT X.K G W u)) : PW X (.BoolOp .Or (a :: b :: rest) pos) (RdT X.K G W (tOrM t u)) := by
  refine PW.imp (pw_or ha hb) fun σ H Q q => ?_
  obtain ⟨ρ, h, env, r, re, w⟩ := q
  refine ⟨ρ, h, env, r, re, Wp.bind w fun x h1 ρ1 H1 k f1 r1 q1 w1 => ?_⟩
  subst q1
  cases x with
  | false => exact ⟨ρ1, h1, env, r1, re.fut f1, w1⟩
  | true => exact w1.ret r1 rfl
/-! as values -/
def eAndM (a b : Mx) : Mx := fun env h => (a env h).bind fun x h1 => match truD h1 x with
  | some true => b env h1
  | some false => .ok x h1
  | none => .bad
def eOrM (a b : Mx) : Mx := fun env h => (a env h).bind fun x h1 => match truD h1 x with
  | some true => .ok x h1
  | some false => b env h1
  | none => .bad
def eNotM (a : Mx) : Mx := fun env h => (a env h).bind fun x h1 => match truD h1 x with
  | some k => .ok (.bl (!k)) h1
  | none => .bad
def eIfM (t : Mt) (a b : Mx) : Mx := fun env h => (t env h).bind fun k h1 => match k with
  | true => a env h1
  | false => b env h1
theorem me_one {op} {m : Mx} (ha : PE X a (RdE X.K G W m)) : PE X (.BoolOp op [a] pos) (RdE X.K G W m) := pe_one ha
theorem me_and {m n : Mx} (ha : PE X a (RdE X.K G W m)) (hb : PE X (.BoolOp .And (b :: rest) pos) (RdE X.K G W n)) : PE X (.BoolOp .And (a :: b :: rest) pos) (RdE X.K G W (eAndM m n)) := by
  refine PE.imp (pe_andT ha hb) fun σ H Q q => ?_
  obtain ⟨ρ, h, env, r, re, w⟩ := q
  refine ⟨ρ, h, env, r, re, Wp.bind w fun x h1 ρ1 H1 vx f1 r1 q1 w1 => ?_⟩
  cases e : truD h1 x with
  | none => rw [e] at w1; exact w1.elim
  | some k =>
    rw [e] at w1
    refine ⟨k, truD_ok r1 q1 e, ?_⟩
    cases k with
    | true => exact ⟨ρ1, h1, env, r1, re.fut f1, w1⟩
    | false => exact w1.ret r1 q1
theorem me_or {m n : Mx} (ha : PE X a (RdE X.K G W m)) (hb : PE X (.BoolOp .Or (b :: rest) pos) (RdE X.K G W n)) : PE X (.BoolOp .Or (a :: b :: rest) pos) (RdE X.K G W (eOrM m n)) := by
  refine PE.imp (pe_orT ha hb) fun σ H Q q => ?_
  obtain ⟨ρ, h, env, r, re, w⟩ := q
  refine ⟨ρ, h, env, r, re, Wp.bind w fun x h1 ρ1 H1 vx f1 r1 q1 w1 => ?_⟩
  cases e : truD h1 x with
  | none => rw [e] at w1; exact w1.elim
  | some k =>
    rw [e] at w1
    refine ⟨k, truD_ok r1 q1 e, ?_⟩
    cases k with
    | true => exact w1.ret r1 q1
    | false => exact ⟨ρ1, h1, env, r1, re.fut f1, w1⟩
theorem me_not {m : Mx} (ha : PE X a (RdE X.K G W m)) : PE X (.UnaryOp .Not a pos) (RdE X.K G W (eNotM m)) := by
  refine PE.imp (pe_notT ha) fun σ H Q q => ?_
  obtain ⟨ρ, h, env, r, re, w⟩ := q
  refine ⟨ρ, h, env, r, re, Wp.bind w fun x h1 ρ1 H1 vx f1 r1 q1 w1 => ?_⟩
  cases e : truD h1 x with
  | none => rw [e] at w1; exact w1.elim
  | some k => rw [e] at w1; exact ⟨k, truD_ok r1 q1 e, w1.ret r1 (.bl _)⟩
theorem me_if {t : Mt} {m n : Mx} (hc : PT X c (RdT X.K G W t)) (ha : PE X a (RdE X.K G W m)) (hb : PE X b (RdE X.K G W n)) : PE X (.IfExp c a b pos) (RdE X.K G W (eIfM t m n)) := by
  refine PE.imp (pe_ifExp hc ha hb) fun σ H Q q => ?_
  obtain ⟨ρ, h, env, r, re, w⟩ := q
  refine ⟨ρ, h, env, r, re, Wp.bind w fun x h1 ρ1 H1 k f1 r1 q1 w1 => ?_⟩
  subst q1
  cases x with
  | true => exact ⟨ρ1, h1, env, r1, re.fut f1, w1⟩
  | false => exact ⟨ρ1, h1, env, r1, re.fut f1, w1⟩
end

/-! ### argument lists, displays, calls -/
def aNil : Ma := fun _ h => .ok [] h
def aCons (m : Mx) (ms : Ma) : Ma := fun env h => (m env h).bind fun x h1 => (ms env h1).bind fun xs h2 => .ok (x :: xs) h2
theorem ma_nil : PA X [] (RdA X.K G W aNil) := PA.imp pa_nil fun σ H Q ⟨ρ, h, env, r, re, w⟩ => w.ret r .nil
theorem ma_cons {m : Mx} {ms : Ma} (ha : PE X e (RdE X.K G W m)) (hr : PA X es (RdA X.K G W ms)) (hs : starEach (e :: es) X.env = (false, eval e X.env) :: starEach es X.env := by rfl) : PA X (e :: es) (RdA X.K G W (aCons m ms)) := by
  refine PA.imp (pa_cons ha hr hs) fun σ H Q q => ?_
  obtain ⟨ρ, h, env, r, re, w⟩ := q
  refine ⟨ρ, h, env, r, re, Wp.bind w fun x h1 ρ1 H1 vx f1 r1 q1 w1 => ?_⟩
  refine ⟨ρ1, h1, env, r1, re.fut f1, Wp.bind w1 fun y h2 ρ2 H2 vy f2 r2 q2 w2 => ?_⟩
  exact w2.ret r2 (.cons (q1.fut f2) q2)
/-- a new tuple -/
def mkTup (xs : List D) (h : MH) : Option (D × MH) := if xs.length ≤ sizeLine then some (.tup xs, h) else none
/-- a new list -/
def mkLst (xs : List D) (h : MH) : Option (D × MH) := if xs.length ≤ sizeLine then some (.ref h.n, h.add (.lst xs)) else none
def eTup (m : Ma) : Mx := fun env h => (m env h).bind fun xs h1 => ofOpt (mkTup xs h1)
def eLst (m : Ma) : Mx := fun env h => (m env h).bind fun xs h1 => ofOpt (mkLst xs h1)
theorem new_tup {K : PySem.W.Frag} {ρ : List Addr} {h : MH} {H : Hp} {p : Addr} {ds : List D} {xs : List V} (r : Rel K G ρ h H) (n : H p = none) (q : RDs K G ρ H ds xs) :
    Fut K ρ H ρ (upd H p (.tup xs)) ∧ Rel K G ρ h (upd H p (.tup xs)) ∧ RD K G ρ (upd H p (.tup xs)) (.tup ds) (.ref p) := by
  have f : Fut K ρ H ρ (upd H p (.tup xs)) := Fut.updN n
  exact ⟨f, r.laid n, .tup (.of upd_same) (q.fut f)⟩
theorem new_lst {K : PySem.W.Frag} {ρ : List Addr} {h : MH} {H : Hp} {p : Addr} {ds : List D} {xs : List V} (r : Rel K G ρ h H) (n : H p = none) (q : RDs K G ρ H ds xs) :
    Fut K ρ H (ρ ++ [p]) (upd H p (.lst xs)) ∧ Rel K G (ρ ++ [p]) (h.add (.lst ds)) (upd H p (.lst xs)) ∧ RD K G (ρ ++ [p]) (upd H p (.lst xs)) (.ref h.n) (.ref p) := by
  have f : Fut K ρ H (ρ ++ [p]) (upd H p (.lst xs)) := Fut.upd n
  exact ⟨f, r.new n rfl ⟨xs, upd_same, q.fut f⟩, .ref (by rw [← r.len]; simp)⟩
theorem me_tup {x1} {m : Ma} (ha : PA X es (RdA X.K G W m)) : PE X (.Tuple es x1 pos) (RdE X.K G W (eTup m)) := by
  refine PE.imp (pe_tup ha) fun σ H Q q => ?_
  obtain ⟨ρ, h, env, r, re, w⟩ := q
  refine ⟨ρ, h, env, r, re, Wp.bind w fun xs h1 ρ1 H1 vs f1 r1 q1 w1 => ?_⟩
  unfold mkTup at w1
  split at w1
  · refine ⟨by rw [← q1.length]; assumption, fun p n => ?_⟩
    obtain ⟨f2, r2, q2⟩ := new_tup r1 n q1
    exact w1 _ _ _ f2 r2 q2
  · exact w1.elim
theorem me_lst {m : Ma} (ha : PA X es (RdA X.K G W m)) : PE X (.List es pos) (RdE X.K G W (eLst m)) := by
  refine PE.imp (pe_lst ha) fun σ H Q q => ?_
  obtain ⟨ρ, h, env, r, re, w⟩ := q
  refine ⟨ρ, h, env, r, re, Wp.bind w fun xs h1 ρ1 H1 vs f1 r1 q1 w1 => ?_⟩
  unfold mkLst at w1
  split at w1
  · refine ⟨by rw [← q1.length]; assumption, fun p n => ?_⟩
    obtain ⟨f2, r2, q2⟩ := new_lst r1 n q1
    exact w1 _ _ _ f2 r2 q2
  · exact w1.elim
/-- a def's promise: what its function here yields -/
abbrev Fn := List D → MH → Res D
def spM (K : PySem.W.Frag) (G : Nat → Option Addr) (n : Nat) (f : Fn) : Sp := fun vs H Q E => ∃ (ρ : List Addr) (h : MH) (ds : List D), Rel K G ρ h H ∧ RDs K G ρ H ds vs ∧ ds.length = n ∧ Wp K G (RD K G) ρ H (f ds h) Q E
def eCall (f : Fn) (ms : Ma) : Mx := fun env h => (ms env h).bind fun ds h1 => f ds h1
section
variable {k : Nat} {f : Addr} {fd : FuncData} {ps : List Str} {x : Str} {p : Pos} {fm : Fn} {dvs : List V} {dds : List D} {ds : List Value} {n : Nat}
/-- the defaults -/
def dflt (f : Fn) (dds : List D) : Fn := fun xs h => f (xs ++ dds) h
end
theorem aCons_len {m : Mx} {ms : Ma} {n : Nat} (hl : ∀ env h xs h1, ms env h = .ok xs h1 → xs.length = n) : ∀ env h xs h1, aCons m ms env h = .ok xs h1 → xs.length = n + 1 := by
  intro env h xs h1 e
  unfold aCons at e
  cases e1 : m env h with
  | bad => rw [e1] at e; cases e
  | exc C fs h1 => rw [e1] at e; cases e
  | ok x h2 =>
    rw [e1, Res.bind_ok] at e
    cases e2 : ms env h2 with
    | bad => rw [e2] at e; cases e
    | exc C fs h1 => rw [e2] at e; cases e
    | ok ys h3 =>
      rw [e2, Res.bind_ok] at e
      cases e
      rw [List.length_cons, hl _ _ _ _ e2]
theorem aNil_len : ∀ env h xs h1, aNil env h = .ok xs h1 → xs.length = 0 := by
  intro env h xs h1 e
  cases e
  rfl
end
end MM

set_option Elab.async false
set_option linter.all false
set_option maxRecDepth 100000
set_option maxHeartbeats 4000000
set_option autoImplicit false
/-! operators and built-in functions on values, and that the text's do the same -/
namespace MM
open PySem PySem.Spec PyProof.Rows L2

/-! ### a value as plain data -/
def snaps (g : D → Option PyData) : List D → Option (List PyData)
  | [] => some []
  | d :: ds => match g d, snaps g ds with
    | some x, some xs => some (x :: xs)
    | _, _ => none
def snap (h : MH) : Nat → D → Option PyData
  | _, .non => some .none
  | _, .bl b => some (.bool b)
  | _, .int i => some (.int i)
  | _, .str x => some (.str x)
  | _, .rep d => some (.str d.shown)
  | f + 1, .tup xs => (snaps (snap h f) xs).map .tuple
  | f + 1, .ref i => match h.seq i with
    | some xs => (snaps (snap h f) xs).map .list
    | none => none
  | _, _ => none
section
variable {K : PySem.W.Frag} {G : Nat → Option Addr} {ρ : List Addr} {H : Hp} {h : MH}
theorem snaps_ok {g : D → Option PyData} (hg : ∀ d v p, RD K G ρ H d v → g d = some p → Dp K H v p) : ∀ (ds : List D) (vs : List V) (ps : List PyData), RDs K G ρ H ds vs → snaps g ds = some ps → DpAll K H vs ps
  | [], _, ps, .nil, e => by cases e; exact .nil
  | d :: ds, _, ps, .cons a b, e => by
    unfold snaps at e
    cases e1 : g d with
    | none => rw [e1] at e; cases e
    | some x =>
      cases e2 : snaps g ds with
      | none => rw [e1, e2] at e; cases e
      | some xs =>
        rw [e1, e2] at e
        cases e
        exact .cons (hg _ _ _ a e1) (snaps_ok hg ds _ xs b e2)
theorem snap_ok (R : Rel K G ρ h H) : ∀ (f : Nat) (d : D) (v : V) (p : PyData), RD K G ρ H d v → snap h f d = some p → Dp K H v p := by
  intro f
  induction f with
  | zero =>
    intro d v p r e
    cases r with
    | non => cases e; exact .non
    | bl b => cases e; exact .bl b
    | int b => cases e; exact .int b
    | str b => cases e; exact .str b
    | rep d => cases e; exact .str _
    | tup a b => cases e
    | ref a => cases e
    | ty n => cases e
    | stat n => cases e
  | succ f ih =>
    intro d v p r e
    cases r with
    | non => cases e; exact .non
    | bl b => cases e; exact .bl b
    | int b => cases e; exact .int b
    | str b => cases e; exact .str b
    | rep d => cases e; exact .str _
    | tup a b =>
      simp only [snap, Option.map_eq_some_iff] at e
      obtain ⟨ps, e1, rfl⟩ := e
      exact .tup a (snaps_ok ih _ _ _ b e1)
    | @ref i a ha =>
      simp only [snap] at e
      cases es : h.seq i with
      | none => rw [es] at e; cases e
      | some xs =>
        rw [es] at e
        simp only [Option.map_eq_some_iff] at e
        obtain ⟨ps, e1, rfl⟩ := e
        obtain ⟨a', ys, q1, q2, q3⟩ := R.seq es
        rw [ha] at q1; cases q1
        exact .lst q2 (snaps_ok ih _ _ _ q3 e1)
    | ty n => cases e
    | stat n => cases e
end
def deep : Nat := 40

/-! ### ints -/
def addD (a b : D) (h : MH) : Option (D × MH) := match a, b with
  | .int i, .int j => some (.int (i + j), h)
  | .tup xs, .tup ys => if xs.length + ys.length ≤ sizeLine then some (.tup (xs ++ ys), h) else none
  | .ref i, .ref j => match h.get i, h.get j with
    | some (.lst xs), some (.lst ys) => if xs.length + ys.length ≤ sizeLine then some (.ref h.n, h.add (.lst (xs ++ ys))) else none
    | _, _ => none
  | .str x, .str y => if x.length + y.length ≤ sizeLine then some (.str (x ++ y), h) else none
  | _, _ => none
def subD (a b : D) (h : MH) : Option (D × MH) := match a, b with
  | .int i, .int j => some (.int (i - j), h)
  | _, _ => none
def small64 (i : Int) : Bool := Nat.ble (i.natAbs + 1) 18446744073709551616
def mulD (a b : D) (h : MH) : Option (D × MH) := match a, b with
  | .int i, .int j => if small64 i || small64 j then some (.int (i * j), h) else none
  | .tup xs, .int k => if xs ≠ [] ∧ 2 ≤ k ∧ k ≤ 1000 ∧ xs.length ≤ 1000 then some (.tup (List.replicate k.toNat xs).flatten, h) else none
  | .ref i, .int k => match h.get i with
    | some (.lst xs) => if -(2 ^ 63) ≤ k ∧ k < 2 ^ 63 ∧ xs.length * k.toNat ≤ sizeLine then some (.ref h.n, h.add (.lst (List.replicate k.toNat xs).flatten)) else none
    | _ => none
  | _, _ => none
def fdivD (a b : D) (h : MH) : Option (D × MH) := match a, b with
  | .int i, .int j => if 0 < j ∧ j < 1073741824 then some (.int (i / j), h) else none
  | _, _ => none
def modD (a b : D) (h : MH) : Option (D × MH) := match a, b with
  | .int i, .int j => if 0 < j then some (.int (i % j), h) else none
  | _, _ => none
def powD (a b : D) (h : MH) : Option (D × MH) := match a, b with
  | .int i, .int j => if 0 ≤ j ∧ j ≤ 64 ∧ small64 i = true then some (.int (i ^ j.toNat), h) else none
  | _, _ => none
theorem small64_ok {i : Int} (e : small64 i = true) : -(2 ^ 64) < i ∧ i < 2 ^ 64 := by
  have q := Nat.le_of_ble_eq_true e
  omega
section
variable {X : Cx} {G : Nat → Option Addr}
theorem RDs.ne {K : PySem.W.Frag} {ρ : List Addr} {H : Hp} {ds : List D} {xs : List V} (r : RDs K G ρ H ds xs) (h : ds ≠ []) : xs ≠ [] := fun e => h (r.nil_iff.mpr e)
theorem ok_add : OpOK X G (binaryOp .Add) addD := by
  intro pins s σ H x y v u Q I rx ry q
  obtain ⟨ρ, h, a, b, w, h', R, ra, rb, e, k⟩ := q
  unfold addD at e
  split at e
  · cases e; cases ra; cases rb
    exact op_add pins s σ H _ _ v u Q I rx ry ⟨_, _, rfl, rfl, k ρ H _ .refl R (.int _)⟩
  · split at e
    · rename_i hz
      cases e
      cases ra with
      | tup sa da =>
        cases rb with
        | tup sb db =>
          refine op_catA pins s σ H _ _ v u Q I rx ry ⟨_, _, _, _, rfl, rfl, sa, sb, by rw [← da.length, ← db.length]; exact hz, fun e0 => ?_, fun n0 e0 => ?_, fun _ _ p np => ?_⟩
          · refine k ρ H _ .refl R (.tup sb ?_)
            have := da.nil_iff.mpr e0
            subst this
            exact db
          · refine k ρ H _ .refl R (.tup sa ?_)
            have := db.nil_iff.mpr e0
            subst this
            rw [List.append_nil]
            exact da
          · obtain ⟨f2, r2, q2⟩ := new_tup R np (da.append db)
            exact k _ _ _ f2 r2 q2
    · cases e
  · split at e
    · rename_i xs ys g1 g2
      split at e
      · rename_i hz
        cases e
        obtain ⟨a1, vs1, p1, p2, p3⟩ := R.lst g1
        obtain ⟨a2, vs2, p4, p5, p6⟩ := R.lst g2
        cases ra with
        | ref ha =>
          cases rb with
          | ref hb =>
            rw [ha] at p1; cases p1
            rw [hb] at p4; cases p4
            refine op_cat pins s σ H _ _ v u Q I rx ry ⟨_, _, _, _, rfl, rfl, p2, p5, by rw [← p3.length, ← p6.length]; exact hz, fun p np => ?_⟩
            obtain ⟨f2, r2, q2⟩ := new_lst R np (p3.append p6)
            exact k _ _ _ f2 r2 q2
      · cases e
    · cases e
  · split at e
    · rename_i hz
      cases e; cases ra; cases rb
      exact op_add_str pins s σ H _ _ v u Q I rx ry ⟨_, _, rfl, rfl, hz, k ρ H _ .refl R (.str _)⟩
    · cases e
  · cases e
theorem ok_sub : OpOK X G (binaryOp .Sub) subD := by
  intro pins s σ H x y v u Q I rx ry q
  obtain ⟨ρ, h, a, b, w, h', R, ra, rb, e, k⟩ := q
  unfold subD at e
  split at e
  · cases e; cases ra; cases rb
    exact op_sub pins s σ H _ _ v u Q I rx ry ⟨_, _, rfl, rfl, k ρ H _ .refl R (.int _)⟩
  · cases e
theorem ok_mul : OpOK X G (binaryOp .Mult) mulD := by
  intro pins s σ H x y v u Q I rx ry q
  obtain ⟨ρ, h, a, b, w, h', R, ra, rb, e, k⟩ := q
  unfold mulD at e
  split at e
  · split at e
    · rename_i hc
      cases e; cases ra; cases rb
      rw [Bool.or_eq_true] at hc
      exact op_mul pins s σ H _ _ v u Q I rx ry ⟨_, _, rfl, rfl, hc.imp small64_ok small64_ok, k ρ H _ .refl R (.int _)⟩
    · cases e
  · split at e
    · rename_i hc
      obtain ⟨c1, c2, c3, c4⟩ := hc
      cases e
      cases rb
      cases ra with
      | tup sa da =>
        refine op_repT pins s σ H _ _ v u Q I rx ry ⟨_, _, _, rfl, rfl, sa, da.ne c1, c2, c3, by rw [← da.length]; exact c4, fun p np => ?_⟩
        obtain ⟨f2, r2, q2⟩ := new_tup R np (da.rep _)
        exact k _ _ _ f2 r2 q2
    · cases e
  · split at e
    · rename_i xs g1
      split at e
      · rename_i hc
        obtain ⟨c1, c2, c3⟩ := hc
        cases e
        cases rb
        obtain ⟨a1, vs1, p1, p2, p3⟩ := R.lst g1
        cases ra with
        | ref ha =>
          rw [ha] at p1; cases p1
          refine op_rep pins s σ H _ _ v u Q I rx ry ⟨_, _, _, rfl, rfl, p2, c1, c2, by rw [← p3.length]; exact c3, fun p np => ?_⟩
          obtain ⟨f2, r2, q2⟩ := new_lst R np (p3.rep _)
          exact k _ _ _ f2 r2 q2
      · cases e
    · cases e
  · cases e
theorem ok_fdiv : OpOK X G (binaryOp .FloorDiv) fdivD := by
  intro pins s σ H x y v u Q I rx ry q
  obtain ⟨ρ, h, a, b, w, h', R, ra, rb, e, k⟩ := q
  unfold fdivD at e
  split at e
  · split at e
    · rename_i hc
      cases e; cases ra; cases rb
      exact op_fdiv pins s σ H _ _ v u Q I rx ry ⟨_, _, rfl, rfl, hc, k ρ H _ .refl R (.int _)⟩
    · cases e
  · cases e
theorem ok_mod : OpOK X G (binaryOp .Mod) modD := by
  intro pins s σ H x y v u Q I rx ry q
  obtain ⟨ρ, h, a, b, w, h', R, ra, rb, e, k⟩ := q
  unfold modD at e
  split at e
  · split at e
    · rename_i hc
      cases e; cases ra; cases rb
      exact op_mod pins s σ H _ _ v u Q I rx ry ⟨_, _, rfl, rfl, hc, k ρ H _ .refl R (.int _)⟩
    · cases e
  · cases e
theorem ok_pow : OpOK X G (binaryOp .Pow) powD := by
  intro pins s σ H x y v u Q I rx ry q
  obtain ⟨ρ, h, a, b, w, h', R, ra, rb, e, k⟩ := q
  unfold powD at e
  split at e
  · split at e
    · rename_i hc
      obtain ⟨c1, c2, c3⟩ := hc
      cases e; cases ra; cases rb
      have c4 := Nat.le_of_ble_eq_true c3
      exact op_pow pins s σ H _ _ v u Q I rx ry ⟨_, _, rfl, rfl, ⟨c1, by omega, by omega⟩, k ρ H _ .refl R (.int _)⟩
    · cases e
  · cases e
end

/-! ### comparisons -/
def eqB (h : MH) (a b : D) : Option Bool := match a, b with
  | .int i, .int j => some (i == j)
  | .bl i, .bl j => some (i == j)
  | .str i, .str j => some (decide (i = j))
  | .rep i, .rep j => some (decide (i.shown = j.shown))
  | a, b => match snap h deep a, snap h deep b with
    | some x, some y => if SeqAt.shaped x && SeqAt.shaped y then some (PyData.eqv x y) else none
    | _, _ => none
def eqD (a b : D) (h : MH) : Option (D × MH) := (eqB h a b).map fun k => (.bl k, h)
def neD (a b : D) (h : MH) : Option (D × MH) := (eqB h a b).map fun k => (.bl (!k), h)
def cmpD (f : Int → Int → Bool) (a b : D) (h : MH) : Option (D × MH) := match a, b with
  | .int i, .int j => some (.bl (f i j), h)
  | _, _ => none
def ltD : D → D → MH → Option (D × MH) := cmpD fun i j => decide (i < j)
def leD : D → D → MH → Option (D × MH) := cmpD fun i j => decide (i ≤ j)
def gtD : D → D → MH → Option (D × MH) := cmpD fun i j => decide (j < i)
def geD : D → D → MH → Option (D × MH) := cmpD fun i j => decide (j ≤ i)
/-- is -/
def isSame (a b : D) : Option Bool := match a, b with
  | .non, .non => some true
  | .bl i, .bl j => some (i == j)
  | .bl _, .non => some false
  | .int _, .non => some false
  | .str _, .non => some false
  | .rep _, .non => some false
  | .tup _, .non => some false
  | .ref _, .non => some false
  | _, _ => none
def isD (a b : D) (h : MH) : Option (D × MH) := (isSame a b).map fun k => (.bl k, h)
def isNotD (a b : D) (h : MH) : Option (D × MH) := (isSame a b).map fun k => (.bl (!k), h)
/-- in: a list, flat or not; a tuple of flat things; a text -/
def flatD : D → Bool
  | .non | .bl _ | .int _ | .str _ => true
  | _ => false
def toV : D → V
  | .bl b => .bl b
  | .int i => .int i
  | .str x => .str x
  | _ => .non
def inB (h : MH) (a b : D) : Option Bool := match b with
  | .tup xs => if flatD a && xs.all flatD then some (inV (toV a) (xs.map toV)) else none
  | .ref i => match snap h deep a, snap h deep (.ref i) with
    | some x, some (.list ys) => if SeqAt.shaped x && SeqAt.shaped (.list ys) then some (ys.any fun z => PyData.eqv z x) else none
    | _, _ => none
  | .str j => match a with
    | .str i => some (!(Builtin.Str.occurrences j i 0 j.length 1).isEmpty)
    | _ => none
  | _ => none
def inD (a b : D) (h : MH) : Option (D × MH) := (inB h a b).map fun k => (.bl k, h)
def notInD (a b : D) (h : MH) : Option (D × MH) := (inB h a b).map fun k => (.bl (!k), h)
section
variable {X : Cx} {G : Nat → Option Addr} {K : PySem.W.Frag} {ρ : List Addr} {H : Hp}
theorem RD.dp {h : MH} (R : Rel K G ρ h H) {d : D} {v : V} {p : PyData} {f : Nat} (r : RD K G ρ H d v) (e : snap h f d = some p) : Dp K H v p := snap_ok R f d v p r e
theorem eqB_cases {h : MH} {a b : D} {k : Bool} (e : eqB h a b = some k) : (∃ i j, a = .int i ∧ b = .int j ∧ k = (i == j)) ∨ (∃ i j, a = .bl i ∧ b = .bl j ∧ k = (i == j)) ∨ (∃ i j, a = .str i ∧ b = .str j ∧ k = decide (i = j)) ∨ (∃ i j, a = .rep i ∧ b = .rep j ∧ k = decide (i.shown = j.shown)) ∨
    ∃ x y, snap h deep a = some x ∧ snap h deep b = some y ∧ SeqAt.shaped x = true ∧ SeqAt.shaped y = true ∧ k = PyData.eqv x y := by
  unfold eqB at e
  split at e
  · cases e; exact .inl ⟨_, _, rfl, rfl, rfl⟩
  · cases e; exact .inr (.inl ⟨_, _, rfl, rfl, rfl⟩)
  · cases e; exact .inr (.inr (.inl ⟨_, _, rfl, rfl, rfl⟩))
  · cases e; exact .inr (.inr (.inr (.inl ⟨_, _, rfl, rfl, rfl⟩)))
  · split at e
    · rename_i x y e1 e2
      split at e
      · rename_i hc
        rw [Bool.and_eq_true] at hc
        cases e
        exact .inr (.inr (.inr (.inr ⟨x, y, e1, e2, hc.1, hc.2, rfl⟩)))
      · cases e
    · cases e
theorem ok_eq (hu : X.A.units + 64 < cLine) : OpOK X G (compareOp .Eq) eqD := by
  intro pins s σ H x y v u Q I rx ry q
  obtain ⟨ρ, h, a, b, w, h', R, ra, rb, e, k⟩ := q
  simp only [eqD, Option.map_eq_some_iff] at e
  obtain ⟨c, e, e'⟩ := e
  cases e'
  have fin := k ρ H _ .refl R (.bl c)
  rcases eqB_cases e with ⟨i, j, rfl, rfl, rfl⟩ | ⟨i, j, rfl, rfl, rfl⟩ | ⟨i, j, rfl, rfl, rfl⟩ | ⟨i, j, rfl, rfl, rfl⟩ | ⟨p, q, e1, e2, s1, s2, rfl⟩
  · cases ra; cases rb
    exact op_eq pins s σ H _ _ v u Q I rx ry ⟨rfl, by rw [dec_int]; exact fin⟩
  · cases ra; cases rb
    exact op_eq pins s σ H _ _ v u Q I rx ry ⟨rfl, by rw [dec_bl]; exact fin⟩
  · cases ra; cases rb
    exact op_eq pins s σ H _ _ v u Q I rx ry ⟨rfl, by rw [dec_str]; rw [show (i == j) = decide (i = j) from by rw [Bool.eq_iff_iff]; simp]; exact fin⟩
  · cases ra; cases rb
    exact op_eq pins s σ H _ _ v u Q I rx ry ⟨rfl, by rw [dec_str]; rw [show (i.shown == j.shown) = decide (i.shown = j.shown) from by rw [Bool.eq_iff_iff]; simp]; exact fin⟩
  · exact op_eqD hu pins s σ H _ _ v u Q I rx ry ⟨p, q, ra.dp R e1, rb.dp R e2, s1, s2, fin⟩
theorem ok_ne (hu : X.A.units + 64 < cLine) : OpOK X G (compareOp .NotEq) neD := by
  intro pins s σ H x y v u Q I rx ry q
  obtain ⟨ρ, h, a, b, w, h', R, ra, rb, e, k⟩ := q
  simp only [neD, Option.map_eq_some_iff] at e
  obtain ⟨c, e, e'⟩ := e
  cases e'
  have fin := k ρ H _ .refl R (.bl (!c))
  rcases eqB_cases e with ⟨i, j, rfl, rfl, rfl⟩ | ⟨i, j, rfl, rfl, rfl⟩ | ⟨i, j, rfl, rfl, rfl⟩ | ⟨i, j, rfl, rfl, rfl⟩ | ⟨p, q, e1, e2, s1, s2, rfl⟩
  · cases ra; cases rb
    exact op_ne pins s σ H _ _ v u Q I rx ry ⟨rfl, by rw [dec_int]; exact fin⟩
  · cases ra; cases rb
    exact op_ne pins s σ H _ _ v u Q I rx ry ⟨rfl, by rw [dec_bl]; exact fin⟩
  · cases ra; cases rb
    exact op_ne pins s σ H _ _ v u Q I rx ry ⟨rfl, by rw [dec_str]; rw [show (i == j) = decide (i = j) from by rw [Bool.eq_iff_iff]; simp]; exact fin⟩
  · cases ra; cases rb
    exact op_ne pins s σ H _ _ v u Q I rx ry ⟨rfl, by rw [dec_str]; rw [show (i.shown == j.shown) = decide (i.shown = j.shown) from by rw [Bool.eq_iff_iff]; simp]; exact fin⟩
  · exact op_neD hu pins s σ H _ _ v u Q I rx ry ⟨p, q, ra.dp R e1, rb.dp R e2, s1, s2, fin⟩
theorem ok_cmp {op : CmpOp} {f : Int → Int → Bool} (ho : OpR X (compareOp op) (rI0 fun i j => .bl (f i j))) : OpOK X G (compareOp op) (cmpD f) := by
  intro pins s σ H x y v u Q I rx ry q
  obtain ⟨ρ, h, a, b, w, h', R, ra, rb, e, k⟩ := q
  unfold cmpD at e
  split at e
  · cases e; cases ra; cases rb
    exact ho pins s σ H _ _ v u Q I rx ry ⟨_, _, rfl, rfl, k ρ H _ .refl R (.bl _)⟩
  · cases e
theorem ok_lt : OpOK X G (compareOp .Lt) ltD := ok_cmp op_lt
theorem ok_le : OpOK X G (compareOp .LtE) leD := ok_cmp op_le
theorem ok_gt : OpOK X G (compareOp .Gt) gtD := ok_cmp op_gt
theorem ok_ge : OpOK X G (compareOp .GtE) geD := ok_cmp op_ge
theorem isSame_ok {a b : D} {x y : V} {k : Bool} (ra : RD K G ρ H a x) (rb : RD K G ρ H b y) (e : isSame a b = some k) : (y = .non ∧ k = decide (x = .non)) ∨ ∃ i j, x = .bl i ∧ y = .bl j ∧ k = decide (i = j) := by
  unfold isSame at e
  split at e <;> first
    | (cases e; cases ra; cases rb; exact .inl ⟨rfl, by simp⟩)
    | (cases e; cases ra; cases rb; exact .inr ⟨_, _, rfl, rfl, by rw [Bool.beq_eq_decide_eq]⟩)
    | cases e
theorem ok_is : OpOK X G (compareOp .Is) isD := by
  intro pins s σ H x y v u Q I rx ry q
  obtain ⟨ρ, h, a, b, w, h', R, ra, rb, e, k⟩ := q
  simp only [isD, Option.map_eq_some_iff] at e
  obtain ⟨c, e, e'⟩ := e
  cases e'
  have fin := k ρ H _ .refl R (.bl c)
  rcases isSame_ok ra rb e with ⟨rfl, rfl⟩ | ⟨i, j, rfl, rfl, rfl⟩
  · exact op_isN pins s σ H _ _ v u Q I rx ry ⟨rfl, fin⟩
  · exact op_isBl pins s σ H _ _ v u Q I rx ry ⟨_, _, rfl, rfl, fin⟩
theorem ok_isNot : OpOK X G (compareOp .IsNot) isNotD := by
  intro pins s σ H x y v u Q I rx ry q
  obtain ⟨ρ, h, a, b, w, h', R, ra, rb, e, k⟩ := q
  simp only [isNotD, Option.map_eq_some_iff] at e
  obtain ⟨c, e, e'⟩ := e
  cases e'
  have fin := k ρ H _ .refl R (.bl (!c))
  rcases isSame_ok ra rb e with ⟨rfl, rfl⟩ | ⟨i, j, rfl, rfl, rfl⟩
  · exact op_notN pins s σ H _ _ v u Q I rx ry ⟨rfl, fin⟩
  · exact op_notBl pins s σ H _ _ v u Q I rx ry ⟨_, _, rfl, rfl, fin⟩
theorem flat_v {d : D} {v : V} (r : RD K G ρ H d v) (e : flatD d = true) : v = toV d ∧ flatV v = true := by
  cases r <;> first | exact ⟨rfl, rfl⟩ | cases e
theorem flats_v : ∀ {ds : List D} {vs : List V}, RDs K G ρ H ds vs → ds.all flatD = true → vs = ds.map toV ∧ vs.all flatV = true
  | _, _, .nil, _ => ⟨rfl, rfl⟩
  | _, _, .cons a b, e => by
    rw [List.all_cons, Bool.and_eq_true] at e
    obtain ⟨h1, h2⟩ := flat_v a e.1
    obtain ⟨h3, h4⟩ := flats_v b e.2
    exact ⟨by rw [List.map_cons, ← h1, ← h3], by rw [List.all_cons, h2, h4]; rfl⟩
theorem inB_ok {h : MH} (R : Rel K G ρ h H) {a b : D} {x y : V} {k : Bool} (ra : RD K G ρ H a x) (rb : RD K G ρ H b y) (e : inB h a b = some k) :
    (∃ p xs, y = .ref p ∧ SqT K H p xs ∧ flatV x = true ∧ xs.all flatV = true ∧ k = inV x xs) ∨ (∃ d ds, Dp K H x d ∧ Dp K H y (.list ds) ∧ SeqAt.shaped d = true ∧ SeqAt.shaped (.list ds) = true ∧ k = ds.any fun z => PyData.eqv z d) ∨
      ∃ i j, x = .str i ∧ y = .str j ∧ k = !(Builtin.Str.occurrences j i 0 j.length 1).isEmpty := by
  unfold inB at e
  split at e
  · split at e
    · rename_i hc
      rw [Bool.and_eq_true] at hc
      cases e
      cases rb with
      | tup sa da =>
        obtain ⟨h1, h2⟩ := flat_v ra hc.1
        obtain ⟨h3, h4⟩ := flats_v da hc.2
        exact .inl ⟨_, _, rfl, sa, h2, h4, by rw [h1, h3]⟩
    · cases e
  · split at e
    · rename_i d ds e1 e2
      split at e
      · rename_i hc
        rw [Bool.and_eq_true] at hc
        cases e
        exact .inr (.inl ⟨d, ds, ra.dp R e1, rb.dp R e2, hc.1, hc.2, rfl⟩)
      · cases e
    · cases e
  · split at e
    · cases e; cases ra; cases rb
      exact .inr (.inr ⟨_, _, rfl, rfl, rfl⟩)
    · cases e
  · cases e
theorem ok_in (hu : X.A.units + 65 < cLine) : OpOK X G (compareOp .In) inD := by
  intro pins s σ H x y v u Q I rx ry q
  obtain ⟨ρ, h, a, b, w, h', R, ra, rb, e, k⟩ := q
  simp only [inD, Option.map_eq_some_iff] at e
  obtain ⟨c, e, e'⟩ := e
  cases e'
  have fin := k ρ H _ .refl R (.bl c)
  rcases inB_ok R ra rb e with ⟨p, xs, rfl, h1, h2, h3, rfl⟩ | ⟨d, ds, h1, h2, h3, h4, rfl⟩ | ⟨i, j, rfl, rfl, rfl⟩
  · exact op_in_seq pins s σ H _ _ v u Q I rx ry ⟨p, xs, rfl, .inr h1, h2, h3, by simpa using fin⟩
  · exact op_inD hu pins s σ H _ _ v u Q I rx ry ⟨d, ds, h1, h2, h3, h4, fin⟩
  · exact op_in_str pins s σ H _ _ v u Q I rx ry ⟨_, _, rfl, rfl, fin⟩
theorem ok_notIn (hu : X.A.units + 65 < cLine) : OpOK X G (compareOp .NotIn) notInD := by
  intro pins s σ H x y v u Q I rx ry q
  obtain ⟨ρ, h, a, b, w, h', R, ra, rb, e, k⟩ := q
  simp only [notInD, Option.map_eq_some_iff] at e
  obtain ⟨c, e, e'⟩ := e
  cases e'
  have fin := k ρ H _ .refl R (.bl (!c))
  rcases inB_ok R ra rb e with ⟨p, xs, rfl, h1, h2, h3, rfl⟩ | ⟨d, ds, h1, h2, h3, h4, rfl⟩ | ⟨i, j, rfl, rfl, rfl⟩
  · exact op_notIn_seq pins s σ H _ _ v u Q I rx ry ⟨p, xs, rfl, .inr h1, h2, h3, by simpa using fin⟩
  · exact op_notInD hu pins s σ H _ _ v u Q I rx ry ⟨d, ds, h1, h2, h3, h4, fin⟩
  · exact op_notin_str pins s σ H _ _ v u Q I rx ry ⟨_, _, rfl, rfl, fin⟩
end
end MM

set_option Elab.async false
set_option linter.all false
set_option maxRecDepth 100000
set_option maxHeartbeats 4000000
set_option autoImplicit false
/-! subscripts, slices, built-in functions -/
namespace MM
open PySem PySem.Spec PyProof.Rows L2

/-! ### x[i] -/
def ixD (a b : D) (h : MH) : Option (D × MH) := match b with
  | .int i => match a with
    | .tup xs => keep h (atI xs i)
    | .ref j => match h.seq j with
      | some xs => keep h (atI xs i)
      | none => none
    | .str z => if z.length ≤ sizeLine then keep h ((atI z.cps.toList i).map fun c => .str ⟨#[c]⟩) else none
    | _ => none
  | _ => none
section
variable {X : Cx} {G : Nat → Option Addr} {K : PySem.W.Frag} {ρ : List Addr} {H : Hp} {W : WX} {e a b c : Expr} {es : List Expr} {pos : Pos}
theorem RDs.atI {ds : List D} {xs : List V} {i : Int} {d : D} (r : RDs K G ρ H ds xs) (e : L2.atI ds i = some d) : ∃ v, L2.atI xs i = some v ∧ RD K G ρ H d v := by
  unfold L2.atI at e ⊢
  rw [← r.length]
  cases q : ixN ds.length i with
  | none => rw [q] at e; cases e
  | some j =>
    rw [q] at e
    exact r.get e
theorem keep_eq {α : Type} {h h' : MH} {o : Option α} {v : α} (e : keep h o = some (v, h')) : o = some v ∧ h' = h := by
  cases o with
  | none => cases e
  | some a => cases e; exact ⟨rfl, rfl⟩
theorem ix_ok : IxR X (rOp X.K G ixD) := by
  intro val sli pins s σ H x y v u Q I rx ry q hsub
  obtain ⟨ρ, h, a, b, w, h', R, ra, rb, e, k⟩ := q
  unfold ixD at e
  split at e
  · split at e
    · obtain ⟨e1, rfl⟩ := keep_eq e
      cases rb
      cases ra with
      | tup sa da =>
        obtain ⟨z, e2, e3⟩ := da.atI e1
        exact ix_tup val sli pins s σ H _ _ v u Q I rx ry ⟨_, _, _, z, rfl, rfl, sa, e2, k ρ H _ .refl R e3⟩ hsub
    · split at e
      · rename_i xs es
        obtain ⟨e1, rfl⟩ := keep_eq e
        obtain ⟨a1, ys, p1, p2, p3⟩ := R.seq es
        cases rb
        cases ra with
        | ref ha =>
          rw [ha] at p1; cases p1
          obtain ⟨z, e2, e3⟩ := p3.atI e1
          exact ix_list val sli pins s σ H _ _ v u Q I rx ry ⟨_, _, _, z, rfl, rfl, p2, e2, k ρ H _ .refl R e3⟩ hsub
      · cases e
    · split at e
      · rename_i hz
        obtain ⟨e1, rfl⟩ := keep_eq e
        rw [Option.map_eq_some_iff] at e1
        obtain ⟨c, e1, rfl⟩ := e1
        cases rb; cases ra
        exact ix_str val sli pins s σ H _ _ v u Q I rx ry ⟨_, _, _, rfl, rfl, hz, e1, k ρ H _ .refl R (.str _)⟩ hsub
      · cases e
    · cases e
  · cases e
theorem me_ix {ma mb : Mx} (ha : PE X a (RdE X.K G W ma)) (hb : PE X b (RdE X.K G W mb)) (hs : PlainIx b := by exact fun _ _ => rfl) : PE X (.Subscript a b pos) (RdE X.K G W (eOp ixD ma mb)) :=
  PE.imp (pe_ix ix_ok ha hb hs) fun _ _ _ q => two_op q

/-! ### slices -/
abbrev Mo := ME → MH → Res (Option Int)
def oNone : Mo := fun _ h => .ok none h
def oPart (m : Mx) : Mo := fun env h => (m env h).bind fun x h1 => match x with
  | .int i => .ok (some i) h1
  | _ => .bad
def RdO (K : PySem.W.Frag) (G : Nat → Option Addr) (W : WX) (m : Mo) : TO := fun σ H Q => ∃ (ρ : List Addr) (h : MH) (env : ME), Rel K G ρ h H ∧ REnv K G ρ H env σ ∧ Wp K G (fun _ _ a b => a = b) ρ H (m env h) Q (fun c d H' => W c d σ H')
theorem PO.imp {e : Option Expr} {t t' : TO} (p : PO X e t) (k : ∀ σ H Q, t' σ H Q → t σ H Q) : PO X e t' := ⟨fun pins s σ H Q I q => p.run pins s σ H Q I (k _ _ _ q)⟩
theorem mo_none : PO X none (RdO X.K G W oNone) := PO.imp po_none fun σ H Q ⟨ρ, h, env, r, re, w⟩ => w.ret r rfl
theorem mo_some {m : Mx} (he : PE X e (RdE X.K G W m)) : PO X (some e) (RdO X.K G W (oPart m)) := by
  refine PO.imp (po_some he) fun σ H Q q => ?_
  obtain ⟨ρ, h, env, r, re, w⟩ := q
  refine ⟨ρ, h, env, r, re, Wp.bind w fun x h1 ρ1 H1 vx f1 r1 q1 w1 => ?_⟩
  cases q1 with
  | int i => exact ⟨i, rfl, w1.ret r1 rfl⟩
  | _ => exact w1.elim
def cutD (xs : List D) (lo hi : Option Int) : List D := (xs.drop (HT.sIx xs.length 0 lo)).take (HT.sIx xs.length xs.length hi - HT.sIx xs.length 0 lo)
def slD (x : D) (lo hi : Option Int) (h : MH) : Option (D × MH) := match x with
  | .tup xs => some (.tup (cutD xs lo hi), h)
  | .ref i => match h.seq i with
    | some xs => some (.ref h.n, h.add (.lst (cutD xs lo hi)))
    | none => none
  | _ => none
def eSl (m : Mx) (ml mh : Mo) : Mx := fun env h => (m env h).bind fun x h1 => (ml env h1).bind fun lo h2 => (mh env h2).bind fun hi h3 => ofOpt (slD x lo hi h3)
def rSl (K : PySem.W.Frag) (G : Nat → Option Addr) : V → Option Int → Option Int → Hp → VK → Prop := fun x lo hi H Q => ∃ (ρ : List Addr) (h : MH) (a v : D) (h' : MH), Rel K G ρ h H ∧ RD K G ρ H a x ∧ slD a lo hi h = some (v, h') ∧
  ∀ (ρ' : List Addr) (H' : Hp) (v' : V), Fut K ρ H ρ' H' → Rel K G ρ' h' H' → RD K G ρ' H' v v' → Q v' H'
theorem RDs.cut {ds : List D} {xs : List V} (lo hi : Option Int) (r : RDs K G ρ H ds xs) : RDs K G ρ H (cutD ds lo hi) (cutV xs lo hi) := by
  unfold cutD cutV
  rw [← r.length]
  exact (r.drop _).take _
theorem cut_whole {ds : List D} {lo hi : Option Int} (h1 : HT.sIx ds.length 0 lo = 0) (h2 : HT.sIx ds.length ds.length hi = ds.length) : cutD ds lo hi = ds := by
  unfold cutD
  rw [h1, h2, List.drop_zero, Nat.sub_zero, List.take_length]
theorem sl_ok : SlR X (rSl X.K G) := by
  intro pins s σ H x v vl vu lo hi sl Q I rx hs pl pu q
  obtain ⟨ρ, h, a, w, h', R, ra, e, k⟩ := q
  unfold slD at e
  split at e
  · cases e
    cases ra with
    | tup sa da =>
      refine sl_tupA pins s σ H _ v vl vu lo hi sl Q I rx hs pl pu ⟨_, _, rfl, sa, fun hw => ?_, fun hw p np => ?_⟩
      · rw [← da.length] at hw
        exact k ρ H _ .refl R (.tup sa (by rw [cut_whole hw.1 hw.2]; exact da))
      · obtain ⟨f2, r2, q2⟩ := new_tup R np (da.cut lo hi)
        exact k _ _ _ f2 r2 q2
  · split at e
    · rename_i xs es
      cases e
      obtain ⟨a1, ys, p1, p2, p3⟩ := R.seq es
      cases ra with
      | ref ha =>
        rw [ha] at p1; cases p1
        refine sl_list pins s σ H _ v vl vu lo hi sl Q I rx hs pl pu ⟨_, _, rfl, p2, fun p np => ?_⟩
        obtain ⟨f2, r2, q2⟩ := new_lst R np (p3.cut lo hi)
        exact k _ _ _ f2 r2 q2
    · cases e
  · cases e
theorem me_sl {lo hi : Option Expr} {p2 : Pos} {m : Mx} {ml mh : Mo} (he : PE X e (RdE X.K G W m)) (hl : PO X lo (RdO X.K G W ml)) (hu : PO X hi (RdO X.K G W mh)) : PE X (.Subscript e (.Slice lo hi none p2) pos) (RdE X.K G W (eSl m ml mh)) := by
  refine PE.imp (pe_slice (sl_ok (G := G)) he hl hu) fun σ H Q q => ?_
  obtain ⟨ρ, h, env, r, re, w⟩ := q
  refine ⟨ρ, h, env, r, re, Wp.bind w fun x h1 ρ1 H1 vx f1 r1 q1 w1 => ?_⟩
  refine ⟨ρ1, h1, env, r1, re.fut f1, Wp.bind w1 fun lo' h2 ρ2 H2 y f2 r2 q2 w2 => ?_⟩
  subst q2
  refine ⟨ρ2, h2, env, r2, (re.fut f1).fut f2, Wp.bind w2 fun hi' h3 ρ3 H3 y f3 r3 q3 w3 => ?_⟩
  subst q3
  obtain ⟨v, h', e, k⟩ := w3.opt
  exact ⟨ρ3, h3, x, v, h', r3, (q1.fut f2).fut f3, e, k⟩

/-! ### -x -/
def negD (a : D) (h : MH) : Option (D × MH) := match a with
  | .int i => some (.int (-i), h)
  | _ => none
def eUn (f : D → MH → Option (D × MH)) (m : Mx) : Mx := fun env h => (m env h).bind fun x h1 => ofOpt (f x h1)
theorem me_neg {m : Mx} (ha : PE X a (RdE X.K G W m)) : PE X (.UnaryOp .USub a pos) (RdE X.K G W (eUn negD m)) := by
  refine PE.imp (pe_un un_neg ha) fun σ H Q q => ?_
  obtain ⟨ρ, h, env, r, re, w⟩ := q
  refine ⟨ρ, h, env, r, re, Wp.bind w fun x h1 ρ1 H1 vx f1 r1 q1 w1 => ?_⟩
  cases q1 with
  | int i => exact ⟨i, rfl, w1.ret r1 (.int _)⟩
  | _ => exact w1.elim

/-! ### built-in functions and classes, called -/
def CallOK (X : Cx) (G : Nat → Option Addr) (F : Value) (f : List D → MH → Option (D × MH)) : Prop := CallR X F (rCall X.K G f)
def eCB (f : List D → MH → Option (D × MH)) (ms : Ma) : Mx := fun env h => (ms env h).bind fun ds h1 => ofOpt (f ds h1)
theorem cb_rd {f : List D → MH → Option (D × MH)} {ms : Ma} {σ : L2.St} {H : Hp} {Q : VK} (q : RdE X.K G W (eCB f ms) σ H Q) : tCB (rCall X.K G f) (RdA X.K G W ms) σ H Q := by
  obtain ⟨ρ, h, env, r, re, w⟩ := q
  refine ⟨ρ, h, env, r, re, Wp.bind w fun xs h1 ρ1 H1 vs f1 r1 q1 w1 => ?_⟩
  obtain ⟨v, h', e, k⟩ := w1.opt
  exact ⟨ρ1, h1, xs, v, h', r1, q1, e, k⟩
section
variable {x : Str} {p : Pos} {id : String} {f : List D → MH → Option (D × MH)} {ms : Ma}
theorem me_callB (hc : CallOK X G (.builtin id) f) (hg : Gl X x) (hm : X.mg x = none) (hv : bootBuiltins x = some (.builtin id)) (ha : PA X (e :: es) (RdA X.K G W ms)) (hn : x ≠ "__name__" := by decide) (hdb : (x == ("__debug__" : Str)) = false := by decide)
    (he : starEach (e :: es) X.env = (false, eval e X.env) :: starEach es X.env := by rfl) (hpl : (backTo pos (starEach es X.env)).any (·.1) = false := by rfl) : PE X (.Call (.Name x p) (e :: es) [] pos) (RdE X.K G W (eCB f ms)) :=
  PE.imp (pe_callB hc hg hm hv ha hn hdb he hpl) fun _ _ _ q => cb_rd q
theorem me_callTy (hc : CallOK X G (.type id) f) (hg : Gl X x) (hm : X.mg x = none) (hv : bootBuiltins x = some (.type id)) (ha : PA X (e :: es) (RdA X.K G W ms)) (hn : x ≠ "__name__" := by decide) (hdb : (x == ("__debug__" : Str)) = false := by decide)
    (he : starEach (e :: es) X.env = (false, eval e X.env) :: starEach es X.env := by rfl) (hpl : (backTo pos (starEach es X.env)).any (·.1) = false := by rfl) : PE X (.Call (.Name x p) (e :: es) [] pos) (RdE X.K G W (eCB f ms)) :=
  PE.imp (pe_callTy hc hg hm hv ha hn hdb he hpl) fun _ _ _ q => cb_rd q
/-- a name of the library (math.gcd) -/
theorem me_callL (hc : CallOK X G (.builtin id) f) (hg : Gl X x) (hm : X.mg x = some (.builtin id)) (ha : PA X (e :: es) (RdA X.K G W ms)) (hdb : (x == ("__debug__" : Str)) = false := by decide)
    (he : starEach (e :: es) X.env = (false, eval e X.env) :: starEach es X.env := by rfl) (hpl : (backTo pos (starEach es X.env)).any (·.1) = false := by rfl) : PE X (.Call (.Name x p) (e :: es) [] pos) (RdE X.K G W (eCB f ms)) :=
  PE.imp (pe_callBfun hc hg hm ha hdb he hpl) fun _ _ _ q => cb_rd q
end
def lenN (h : MH) : D → Option Nat
  | .tup xs => some xs.length
  | .ref i => (h.seq i).map List.length
  | .str z => if z.length ≤ sizeLine then some z.length else none
  | _ => none
def lenF (ds : List D) (h : MH) : Option (D × MH) := match ds with
  | [x] => (lenN h x).map fun (n : Nat) => (.int (n : Int), h)
  | _ => none
def absF (ds : List D) (h : MH) : Option (D × MH) := match ds with
  | [.int i] => some (.int (if i < 0 then -i else i), h)
  | _ => none
def maxF (ds : List D) (h : MH) : Option (D × MH) := match ds with
  | [.int i, .int j] => some (.int (if j > i then j else i), h)
  | _ => none
def minF (ds : List D) (h : MH) : Option (D × MH) := match ds with
  | [.int i, .int j] => some (.int (if j < i then j else i), h)
  | _ => none
def intF (ds : List D) (h : MH) : Option (D × MH) := match ds with
  | [.int i] => some (.int i, h)
  | [.bl k] => some (.int (if k then 1 else 0), h)
  | _ => none
def tupleF (ds : List D) (h : MH) : Option (D × MH) := match ds with
  | [.tup xs] => some (.tup xs, h)
  | [.ref i] => (h.seq i).map fun xs => (.tup xs, h)
  | _ => none
def listF (ds : List D) (h : MH) : Option (D × MH) := match ds with
  | [.tup xs] => some (.ref h.n, h.add (.lst xs))
  | [.ref i] => (h.seq i).map fun xs => (.ref h.n, h.add (.lst xs))
  | _ => none
def gcdF (ds : List D) (h : MH) : Option (D × MH) := match ds with
  | [.int i, .int j] => some (.int (Nat.gcd i.natAbs j.natAbs : Nat), h)
  | _ => none
def boolsD : List D → Option (List Bool)
  | [] => some []
  | .bl b :: ds => (boolsD ds).map (b :: ·)
  | _ => none
def intsD : List D → Option (List Int)
  | [] => some []
  | .int b :: ds => (intsD ds).map (b :: ·)
  | _ => none
def allF (ds : List D) (h : MH) : Option (D × MH) := match ds with
  | [.ref i] => ((h.seq i).bind boolsD).map fun bs => (.bl (bs.all id), h)
  | _ => none
def anyF (ds : List D) (h : MH) : Option (D × MH) := match ds with
  | [.ref i] => ((h.seq i).bind boolsD).map fun bs => (.bl (bs.any id), h)
  | _ => none
def sumF (ds : List D) (h : MH) : Option (D × MH) := match ds with
  | [.ref i] => ((h.seq i).bind intsD).map fun ns => (.int ns.sum, h)
  | _ => none
/-- a value's class -/
def tyOf (h : MH) : D → Option Ty
  | .non => some .none
  | .bl _ => some .bool
  | .int _ => some .int
  | .str _ => some .str
  | .rep _ => some .str
  | .tup _ => some .tuple
  | .ref i => match h.get i with
    | some (.lst _) => some .list
    | _ => none
  | _ => none
def subT (a b : Ty) : Bool := decide (a = b) || (decide (a = .bool) && decide (b = .int))
def isiF (ds : List D) (h : MH) : Option (D × MH) := match ds with
  | [x, .ty t] => (tyOf h x).map fun u => (.bl (subT u t), h)
  | _ => none
theorem kit_sub (a b : Ty) : kitB a.name b.name = some (subT a b) := by cases a <;> cases b <;> decide +kernel
theorem ok_len : CallOK X G (.builtin "len") lenF := by
  intro pins s σ H vs us Q I r q
  obtain ⟨ρ, h, ds, w, h', R, rs, e, k⟩ := q
  unfold lenF at e
  split at e
  · rename_i x
    rw [Option.map_eq_some_iff] at e
    obtain ⟨(n : Nat), e, e'⟩ := e
    cases e'
    cases rs with
    | cons r1 r2 =>
      cases r2
      refine call_len pins s σ H _ us Q I r ⟨_, n, rfl, ?_, k ρ H _ .refl R (.int _)⟩
      unfold lenN at e
      split at e
      · cases e
        cases r1 with
        | tup sa da => exact .inr ⟨_, sa, da.length⟩
      · rw [Option.map_eq_some_iff] at e
        obtain ⟨xs, e1, e2⟩ := e
        obtain ⟨a1, ys, p1, p2, p3⟩ := R.seq e1
        cases r1 with
        | ref ha =>
          rw [ha] at p1; cases p1
          exact .inl ⟨_, p2, by rw [← e2, p3.length]⟩
      · split at e
        · rename_i hz
          cases e; cases r1
          exact ⟨hz, rfl⟩
        · cases e
      · cases e
  · cases e
theorem ok_abs : CallOK X G (.builtin "abs") absF := by
  intro pins s σ H vs us Q I r q
  obtain ⟨ρ, h, ds, w, h', R, rs, e, k⟩ := q
  unfold absF at e
  split at e
  · cases e
    cases rs with
    | cons r1 r2 =>
      cases r2; cases r1
      exact call_abs pins s σ H _ us Q I r ⟨_, rfl, k ρ H _ .refl R (.int _)⟩
  · cases e
theorem ok_max (hc : X.calm = true) : CallOK X G (.builtin "max") maxF := by
  intro pins s σ H vs us Q I r q
  obtain ⟨ρ, h, ds, w, h', R, rs, e, k⟩ := q
  unfold maxF at e
  split at e
  · cases e
    cases rs with
    | cons r1 r2 =>
      cases r2 with
      | cons r2 r3 =>
        cases r3; cases r1; cases r2
        exact call_max2 hc pins s σ H _ us Q I r ⟨_, _, rfl, k ρ H _ .refl R (.int _)⟩
  · cases e
theorem ok_min (hc : X.calm = true) : CallOK X G (.builtin "min") minF := by
  intro pins s σ H vs us Q I r q
  obtain ⟨ρ, h, ds, w, h', R, rs, e, k⟩ := q
  unfold minF at e
  split at e
  · cases e
    cases rs with
    | cons r1 r2 =>
      cases r2 with
      | cons r2 r3 =>
        cases r3; cases r1; cases r2
        exact call_min2 hc pins s σ H _ us Q I r ⟨_, _, rfl, k ρ H _ .refl R (.int _)⟩
  · cases e
theorem ok_gcd : CallOK X G (.builtin "math.gcd") gcdF := by
  intro pins s σ H vs us Q I r q
  obtain ⟨ρ, h, ds, w, h', R, rs, e, k⟩ := q
  unfold gcdF at e
  split at e
  · cases e
    cases rs with
    | cons r1 r2 =>
      cases r2 with
      | cons r2 r3 =>
        cases r3; cases r1; cases r2
        exact cr_gcd pins s σ H _ us Q I r ⟨_, _, rfl, k ρ H _ .refl R (.int _)⟩
  · cases e
theorem ok_int : CallOK X G (.type "int") intF := by
  intro pins s σ H vs us Q I r q
  obtain ⟨ρ, h, ds, w, h', R, rs, e, k⟩ := q
  unfold intF at e
  split at e
  · cases e
    cases rs with
    | cons r1 r2 =>
      cases r2; cases r1
      exact call_int1 pins s σ H _ us Q I r (.inl ⟨_, rfl, k ρ H _ .refl R (.int _)⟩)
  · cases e
    cases rs with
    | cons r1 r2 =>
      cases r2; cases r1
      exact call_int1 pins s σ H _ us Q I r (.inr ⟨_, rfl, k ρ H _ .refl R (.int _)⟩)
  · cases e
theorem ok_tuple : CallOK X G (.type "tuple") tupleF := by
  intro pins s σ H vs us Q I r q
  obtain ⟨ρ, h, ds, w, h', R, rs, e, k⟩ := q
  unfold tupleF at e
  split at e
  · cases e
    cases rs with
    | cons r1 r2 =>
      cases r2
      cases r1 with
      | tup sa da => exact call_tuple_of pins s σ H _ us Q I r ⟨_, _, rfl, .inr ⟨sa, k ρ H _ .refl R (.tup sa da)⟩⟩
  · rw [Option.map_eq_some_iff] at e
    obtain ⟨xs, e1, e2⟩ := e
    cases e2
    obtain ⟨a1, ys, p1, p2, p3⟩ := R.seq e1
    cases rs with
    | cons r1 r2 =>
      cases r2
      cases r1 with
      | ref ha =>
        rw [ha] at p1; cases p1
        refine call_tuple_of pins s σ H _ us Q I r ⟨_, _, rfl, .inl ⟨p2, fun l nl => ?_⟩⟩
        obtain ⟨f2, r2, q2⟩ := new_tup R nl p3
        exact k _ _ _ f2 r2 q2
  · cases e
theorem ok_list : CallOK X G (.type "list") listF := by
  intro pins s σ H vs us Q I r q
  obtain ⟨ρ, h, ds, w, h', R, rs, e, k⟩ := q
  unfold listF at e
  split at e
  · cases e
    cases rs with
    | cons r1 r2 =>
      cases r2
      cases r1 with
      | tup sa da =>
        refine call_list_of pins s σ H _ us Q I r ⟨_, _, rfl, .inr sa, fun l nl => ?_⟩
        obtain ⟨f2, r2, q2⟩ := new_lst R nl da
        exact k _ _ _ f2 r2 q2
  · rw [Option.map_eq_some_iff] at e
    obtain ⟨xs, e1, e2⟩ := e
    cases e2
    obtain ⟨a1, ys, p1, p2, p3⟩ := R.seq e1
    cases rs with
    | cons r1 r2 =>
      cases r2
      cases r1 with
      | ref ha =>
        rw [ha] at p1; cases p1
        refine call_list_of pins s σ H _ us Q I r ⟨_, _, rfl, .inl p2, fun l nl => ?_⟩
        obtain ⟨f2, r2, q2⟩ := new_lst R nl p3
        exact k _ _ _ f2 r2 q2
  · cases e
theorem boolsV : ∀ {ds : List D} {vs : List V} {bs : List Bool}, RDs K G ρ H ds vs → boolsD ds = some bs → vs = bs.map V.bl
  | [], _, bs, .nil, e => by cases e; rfl
  | d :: ds, _, bs, .cons a b, e => by
    cases a with
    | bl k =>
      simp only [boolsD, Option.map_eq_some_iff] at e
      obtain ⟨cs, e1, rfl⟩ := e
      rw [List.map_cons, boolsV b e1]
    | _ => cases e
theorem intsV : ∀ {ds : List D} {vs : List V} {bs : List Int}, RDs K G ρ H ds vs → intsD ds = some bs → vs = bs.map V.int
  | [], _, bs, .nil, e => by cases e; rfl
  | d :: ds, _, bs, .cons a b, e => by
    cases a with
    | int k =>
      simp only [intsD, Option.map_eq_some_iff] at e
      obtain ⟨cs, e1, rfl⟩ := e
      rw [List.map_cons, intsV b e1]
    | _ => cases e
theorem ok_all (hc : X.calm = true) : CallOK X G (.builtin "all") allF := by
  intro pins s σ H vs us Q I r q
  obtain ⟨ρ, h, ds, w, h', R, rs, e, k⟩ := q
  unfold allF at e
  split at e
  · simp only [Option.map_eq_some_iff, Option.bind_eq_some_iff] at e
    obtain ⟨bs, ⟨xs, e1, e2⟩, e3⟩ := e
    cases e3
    obtain ⟨a1, ys, p1, p2, p3⟩ := R.seq e1
    cases rs with
    | cons r1 r2 =>
      cases r2
      cases r1 with
      | ref ha =>
        rw [ha] at p1; cases p1
        rw [boolsV p3 e2] at p2
        exact cr_all hc pins s σ H _ us Q I r ⟨_, bs, rfl, p2, k ρ H _ .refl R (.bl _)⟩
  · cases e
theorem ok_any (hc : X.calm = true) : CallOK X G (.builtin "any") anyF := by
  intro pins s σ H vs us Q I r q
  obtain ⟨ρ, h, ds, w, h', R, rs, e, k⟩ := q
  unfold anyF at e
  split at e
  · simp only [Option.map_eq_some_iff, Option.bind_eq_some_iff] at e
    obtain ⟨bs, ⟨xs, e1, e2⟩, e3⟩ := e
    cases e3
    obtain ⟨a1, ys, p1, p2, p3⟩ := R.seq e1
    cases rs with
    | cons r1 r2 =>
      cases r2
      cases r1 with
      | ref ha =>
        rw [ha] at p1; cases p1
        rw [boolsV p3 e2] at p2
        exact cr_any hc pins s σ H _ us Q I r ⟨_, bs, rfl, p2, k ρ H _ .refl R (.bl _)⟩
  · cases e
theorem ok_sum (hc : X.calm = true) : CallOK X G (.builtin "sum") sumF := by
  intro pins s σ H vs us Q I r q
  obtain ⟨ρ, h, ds, w, h', R, rs, e, k⟩ := q
  unfold sumF at e
  split at e
  · simp only [Option.map_eq_some_iff, Option.bind_eq_some_iff] at e
    obtain ⟨bs, ⟨xs, e1, e2⟩, e3⟩ := e
    cases e3
    obtain ⟨a1, ys, p1, p2, p3⟩ := R.seq e1
    cases rs with
    | cons r1 r2 =>
      cases r2
      cases r1 with
      | ref ha =>
        rw [ha] at p1; cases p1
        rw [intsV p3 e2] at p2
        exact cr_sum hc pins s σ H _ us Q I r ⟨_, bs, rfl, p2, k ρ H _ .refl R (.int _)⟩
  · cases e
theorem tyOf_ok {h : MH} (R : Rel K G ρ h H) {d : D} {x : V} {t : Ty} (r : RD K G ρ H d x) (e : tyOf h d = some t) : TyX K H x (.type t.name) := by
  cases r with
  | non => cases e; exact .base .non
  | bl b => cases e; exact .base (.bl b)
  | int i => cases e; exact .base (.int i)
  | str y => cases e; exact .base (.str y)
  | rep y => cases e; exact .base (.str _)
  | @tup a ds xs sa da =>
    cases e
    rcases sa with (q | ⟨o, q⟩) | ⟨o, its, n, q1, q2, _⟩
    · exact .base (.tup q)
    · exact .fTuple q
    · exact .kTuple q1 q2
  | @ref i a ha =>
    simp only [tyOf] at e
    cases eo : h.get i with
    | none => rw [eo] at e; cases e
    | some o =>
      rw [eo] at e
      cases o with
      | lst ds =>
        cases e
        obtain ⟨a1, ys, p1, p2, p3⟩ := R.lst eo
        rw [ha] at p1; cases p1
        exact .base (.lst p2)
      | _ => cases e
  | ty n => cases e
  | stat n => cases e
theorem ok_isi : CallOK X G (.builtin "isinstance") isiF := by
  intro pins s σ H vs us Q I r q
  obtain ⟨ρ, h, ds, w, h', R, rs, e, k⟩ := q
  unfold isiF at e
  split at e
  · rename_i x t
    rw [Option.map_eq_some_iff] at e
    obtain ⟨u, e, e'⟩ := e
    cases e'
    cases rs with
    | cons r1 r2 =>
      cases r2 with
      | cons r2 r3 =>
        cases r3; cases r2
        exact call_isi pins s σ H _ us Q I r ⟨_, _, .type u.name, _, _, rfl, .ty t.name, tyOf_ok R r1 e, kit_ty (kit_sub u t), k ρ H _ .refl R (.bl _)⟩
  · cases e
end
end MM

set_option Elab.async false
set_option linter.all false
set_option maxRecDepth 100000
set_option maxHeartbeats 4000000
set_option autoImplicit false
/-! statements, targets, loops, comprehensions, defs -/
namespace MM
open PySem PySem.Spec PyProof.Rows L2

inductive SR where
  | nx (e : ME) (h : MH) | rt (v : D) (h : MH) | bk (e : ME) (h : MH) | ct (e : ME) (h : MH) | exc (C : Nat) (fs : List (Str × D)) (e : ME) (h : MH) | bad
abbrev Ms := ME → MH → SR
def Res.toS {α : Type} (r : Res α) (env : ME) (f : α → MH → SR) : SR := match r with
  | .ok a h => f a h
  | .exc C fs h => .exc C fs env h
  | .bad => .bad
@[simp] theorem Res.toS_ok {α : Type} (a : α) (h : MH) (env : ME) (f : α → MH → SR) : (Res.ok a h).toS env f = f a h := rfl
@[simp] theorem Res.toS_exc {α : Type} (C : Nat) (fs : List (Str × D)) (h : MH) (env : ME) (f : α → MH → SR) : (Res.exc C fs h).toS env f = .exc C fs env h := rfl
@[simp] theorem Res.toS_bad {α : Type} (env : ME) (f : α → MH → SR) : (Res.bad : Res α).toS env f = .bad := rfl
def WpS (K : PySem.W.Frag) (G : Nat → Option Addr) (W : WX) (ρ : List Addr) (H : Hp) (r : SR) (D : Ends) : Prop := match r with
  | .nx e h' => ∀ (ρ' : List Addr) (H' : Hp) (σ' : L2.St), Fut K ρ H ρ' H' → Rel K G ρ' h' H' → REnv K G ρ' H' e σ' → D.nx σ' H'
  | .bk e h' => ∀ (ρ' : List Addr) (H' : Hp) (σ' : L2.St), Fut K ρ H ρ' H' → Rel K G ρ' h' H' → REnv K G ρ' H' e σ' → D.bk σ' H'
  | .ct e h' => ∀ (ρ' : List Addr) (H' : Hp) (σ' : L2.St), Fut K ρ H ρ' H' → Rel K G ρ' h' H' → REnv K G ρ' H' e σ' → D.ct σ' H'
  | .rt v h' => ∀ (ρ' : List Addr) (H' : Hp) (v' : V), Fut K ρ H ρ' H' → Rel K G ρ' h' H' → RD K G ρ' H' v v' → D.rt v' H'
  | .exc C fs e h' => ∀ (ρ' : List Addr) (H' : Hp) (σ' : L2.St) (c : Addr) (d : Option Addr), G C = some c → Fut K ρ H ρ' H' → Rel K G ρ' h' H' → REnv K G ρ' H' e σ' → RX K G ρ' H' fs d → W (.ref c) d σ' H'
  | .bad => False
def RdS (K : PySem.W.Frag) (G : Nat → Option Addr) (W : WX) (m : Ms) : TS := fun D σ H => ∃ (ρ : List Addr) (h : MH) (env : ME), Rel K G ρ h H ∧ REnv K G ρ H env σ ∧ WpS K G W ρ H (m env h) D
section
variable {K : PySem.W.Frag} {G : Nat → Option Addr} {W : WX} {ρ ρ' : List Addr} {H H' : Hp} {h h' : MH} {env : ME} {σ : L2.St}
theorem WpS.fut {r : SR} {D : Ends} (f : Fut K ρ H ρ' H') (w : WpS K G W ρ H r D) : WpS K G W ρ' H' r D := by
  cases r with
  | nx e h1 => exact fun ρ2 H2 σ f2 => w ρ2 H2 σ (f.trans f2)
  | bk e h1 => exact fun ρ2 H2 σ f2 => w ρ2 H2 σ (f.trans f2)
  | ct e h1 => exact fun ρ2 H2 σ f2 => w ρ2 H2 σ (f.trans f2)
  | rt e h1 => exact fun ρ2 H2 σ f2 => w ρ2 H2 σ (f.trans f2)
  | exc C fs e h1 => exact fun ρ2 H2 σ c d eg f2 => w ρ2 H2 σ c d eg (f.trans f2)
  | bad => exact w
theorem WpS.bind {α β : Type} {RA : List Addr → Hp → α → β → Prop} {r : Res α} {f : α → MH → SR} {Q1 : β → Hp → Prop} {D : Ends} (w : WpS K G W ρ H (r.toS env f) D) (re : REnv K G ρ H env σ)
    (k : ∀ (a : α) (h1 : MH) (ρ1 : List Addr) (H1 : Hp) (b : β), Fut K ρ H ρ1 H1 → Rel K G ρ1 h1 H1 → RA ρ1 H1 a b → REnv K G ρ1 H1 env σ → WpS K G W ρ1 H1 (f a h1) D → Q1 b H1) : Wp K G RA ρ H r Q1 (fun c d H' => W c d σ H') := by
  cases r with
  | ok a h1 => exact fun ρ1 H1 b f1 r1 q1 => k a h1 ρ1 H1 b f1 r1 q1 (re.fut f1) (WpS.fut f1 w)
  | exc C fs h1 => exact fun ρ1 H1 c d eg f1 r1 hx => w ρ1 H1 σ c d eg f1 r1 (re.fut f1) hx
  | bad => exact w
theorem WpS.go {e : ME} {D : Ends} (w : WpS K G W ρ H (.nx e h) D) (r : Rel K G ρ h H) (re : REnv K G ρ H e σ) : D.nx σ H := w ρ H σ .refl r re
end

section
variable {X : Cx} {G : Nat → Option Addr} {W : WX} {e : Expr} {pos : Pos}
theorem PS.imp {st : Stmt} {t t' : TS} (p : PS X st t) (k : ∀ D σ H, t' D σ H → t D σ H) : PS X st t' := ⟨fun pins s σ H D I q => p.run pins s σ H D I (k _ _ _ q)⟩
theorem PSs.imp {st : List Stmt} {t t' : TS} (p : PSs X st t) (k : ∀ D σ H, t' D σ H → t D σ H) : PSs X st t' := ⟨fun pins s σ H D I q => p.run pins s σ H D I (k _ _ _ q)⟩
def sNil : Ms := fun env h => .nx env h
def sSeq (a b : Ms) : Ms := fun env h => match a env h with
  | .nx e h1 => b e h1
  | .rt v h1 => .rt v h1
  | .bk e h1 => .bk e h1
  | .ct e h1 => .ct e h1
  | .exc C fs e h1 => .exc C fs e h1
  | .bad => .bad
def sBk : Ms := fun env h => .bk env h
def sCt : Ms := fun env h => .ct env h
def sEx (m : Mx) : Ms := fun env h => (m env h).toS env fun _ h1 => .nx env h1
def sRet (m : Mx) : Ms := fun env h => (m env h).toS env fun v h1 => .rt v h1
def sRetN : Ms := fun _ h => .rt .non h
def sIf (t : Mt) (a b : Ms) : Ms := fun env h => (t env h).toS env fun k h1 => match k with
  | true => a env h1
  | false => b env h1
def sSet (i : Nat) (m : Mx) : Ms := fun env h => (m env h).toS env fun v h1 => .nx (env.set i (some v)) h1
def sAug (i : Nat) (f : D → D → MH → Option (D × MH)) (m : Mx) : Ms := fun env h => match env[i]? with
  | some (some x) => (m env h).toS env fun y h1 => match f x y h1 with
    | some (z, h2) => .nx (env.set i (some z)) h2
    | none => .bad
  | _ => .bad
theorem ms_nil : PSs X [] (RdS X.K G W sNil) := PSs.imp pss_nil fun D σ H ⟨ρ, h, env, r, re, w⟩ => w.go r re
theorem ms_cons {st : Stmt} {rest : List Stmt} {a b : Ms} (h1 : PS X st (RdS X.K G W a)) (h2 : PSs X rest (RdS X.K G W b)) : PSs X (st :: rest) (RdS X.K G W (sSeq a b)) := by
  refine PSs.imp (pss_cons h1 h2) fun D σ H q => ?_
  obtain ⟨ρ, h, env, r, re, w⟩ := q
  refine ⟨ρ, h, env, r, re, ?_⟩
  unfold sSeq at w
  cases e1 : a env h with
  | nx e h1 => rw [e1] at w; exact fun ρ1 H1 σ1 f1 r1 re1 => ⟨ρ1, h1, e, r1, re1, WpS.fut f1 w⟩
  | rt v h1 => rw [e1] at w; exact w
  | bk e h1 => rw [e1] at w; exact w
  | ct e h1 => rw [e1] at w; exact w
  | exc C fs e h1 => rw [e1] at w; exact w
  | bad => rw [e1] at w; exact w.elim
theorem ms_one {st : Stmt} {a : Ms} (h1 : PS X st (RdS X.K G W a)) : PSs X [st] (RdS X.K G W a) := pss_one h1
theorem ms_pass : PS X (.Pass pos) (RdS X.K G W sNil) := PS.imp ps_pass fun D σ H ⟨ρ, h, env, r, re, w⟩ => w.go r re
theorem ms_break : PS X (.Break pos) (RdS X.K G W sBk) := PS.imp ps_break fun D σ H ⟨ρ, h, env, r, re, w⟩ => w ρ H σ .refl r re
theorem ms_continue : PS X (.Continue pos) (RdS X.K G W sCt) := PS.imp ps_continue fun D σ H ⟨ρ, h, env, r, re, w⟩ => w ρ H σ .refl r re
theorem ms_doc {x j} {p p' : Pos} : PS X (.Expr (.Constant (.str x) j p) p') (RdS X.K G W sNil) := PS.imp ps_doc fun D σ H ⟨ρ, h, env, r, re, w⟩ => w.go r re
theorem ms_expr {m : Mx} (he : PE X e (RdE X.K G W m)) (hs : swapsWith e none pos.line X.env = pure false := by rfl) : PS X (.Expr e pos) (RdS X.K G W (sEx m)) := by
  refine PS.imp (ps_expr he hs) fun D σ H q => ?_
  obtain ⟨ρ, h, env, r, re, w⟩ := q
  exact ⟨ρ, h, env, r, re, WpS.bind w re fun x h1 ρ1 H1 vx f1 r1 q1 re1 w1 => w1.go r1 re1⟩
theorem ms_ret {m : Mx} (he : PE X e (RdE X.K G W m)) : PS X (.Return (some e) pos) (RdS X.K G W (sRet m)) := by
  refine PS.imp (ps_ret he) fun D σ H q => ?_
  obtain ⟨ρ, h, env, r, re, w⟩ := q
  exact ⟨ρ, h, env, r, re, WpS.bind w re fun x h1 ρ1 H1 vx f1 r1 q1 re1 w1 => w1 ρ1 H1 vx .refl r1 q1⟩
theorem ms_retN : PS X (.Return none pos) (RdS X.K G W sRetN) := PS.imp ps_retN fun D σ H ⟨ρ, h, env, r, re, w⟩ => w ρ H _ .refl r .non
theorem ms_if {c : Expr} {a b : List Stmt} {t : Mt} {ma mb : Ms} (hc : PT X c (RdT X.K G W t)) (ha : PSs X a (RdS X.K G W ma)) (hb : PSs X b (RdS X.K G W mb)) : PS X (.If c a b pos) (RdS X.K G W (sIf t ma mb)) := by
  refine PS.imp (ps_if hc ha hb) fun D σ H q => ?_
  obtain ⟨ρ, h, env, r, re, w⟩ := q
  refine ⟨ρ, h, env, r, re, WpS.bind w re fun k h1 ρ1 H1 b f1 r1 q1 re1 w1 => ?_⟩
  subst q1
  cases k with
  | true => exact ⟨ρ1, h1, env, r1, re1, w1⟩
  | false => exact ⟨ρ1, h1, env, r1, re1, w1⟩
theorem ms_set {i : Nat} {x : Str} {m : Mx} {pos' : Pos} (hN : X.N.Nodup) (hi : X.N[i]? = some x) (hx : Loc X.env.scope x) (he : PE X e (RdE X.K G W m)) (hs : swapsWith e (some (.Name x pos')) pos.line X.env = pure false := by rfl)
    (hf : X.fn x = true ∨ X.env.scope.names.lookup x = some .local := by first | exact .inl rfl | exact .inr rfl | assumption) : PS X (.Assign [.Name x pos'] e pos) (RdS X.K G W (sSet i m)) := by
  refine PS.imp (ps_set hN hi hx he hs hf) fun D σ H q => ?_
  obtain ⟨ρ, h, env, r, re, w⟩ := q
  exact ⟨ρ, h, env, r, re, WpS.bind w re fun x h1 ρ1 H1 vx f1 r1 q1 re1 w1 => w1.go r1 (re1.set q1)⟩
theorem ms_aug {i : Nat} {x : Str} {m : Mx} {op : Operator} {f : D → D → MH → Option (D × MH)} {pos' : Pos} (ho : OpOK X G (inplaceOp op) f) (hN : X.N.Nodup) (hi : X.N[i]? = some x) (hx : Loc X.env.scope x) (he : PE X e (RdE X.K G W m))
    (hf : X.fn x = true ∨ X.env.scope.names.lookup x = some .local := by first | exact .inl rfl | exact .inr rfl | assumption) : PS X (.AugAssign (.Name x pos') op e pos) (RdS X.K G W (sAug i f m)) := by
  refine PS.imp (ps_aug hN hi hx he (ti := rOp X.K G f) ho hf) fun D σ H q => ?_
  obtain ⟨ρ, h, env, r, re, w⟩ := q
  unfold sAug at w
  split at w
  · rename_i d ed
    obtain ⟨v, e1, e2⟩ := re.at_ i d ed
    refine ⟨v, e1, ρ, h, env, r, re, WpS.bind w re fun y h1 ρ1 H1 vy f1 r1 q1 re1 w1 => ?_⟩
    cases ef : f d y h1 with
    | none => rw [ef] at w1; exact w1.elim
    | some p =>
      rw [ef] at w1
      exact ⟨ρ1, h1, d, y, p.1, p.2, r1, e2.fut f1, q1, by rw [ef], fun ρ2 H2 v2 f2 r2 q2 => w1 ρ2 H2 _ f2 r2 ((re1.fut f2).set q2)⟩
  · exact w.elim

/-! ### targets -/
inductive Tg where
  | nm (i : Nat) | tp (ts : List Tg)
def items (h : MH) : D → Option (List D)
  | .tup ds => some ds
  | .ref i => h.seq i
  | _ => none
mutual
def asg (h : MH) : Tg → D → ME → Option ME
  | .nm i, d, env => some (env.set i (some d))
  | .tp ts, d, env => match items h d with
    | some ds => asgs h ts ds env
    | none => none
def asgs (h : MH) : List Tg → List D → ME → Option ME
  | [], [], env => some env
  | t :: ts, d :: ds, env => match asg h t d env with
    | some e1 => asgs h ts ds e1
    | none => none
  | _, _, _ => none
end
mutual
def Tg.slots : Tg → List Nat
  | .nm i => [i]
  | .tp ts => Tg.slotss ts
def Tg.slotss : List Tg → List Nat
  | [] => []
  | t :: ts => t.slots ++ Tg.slotss ts
end
theorem wipe_set {σ : L2.St} {i : Nat} {x : Option V} : ∀ {vs : List Nat}, i ∈ vs → wipe (σ.set i x) vs = wipe σ vs
  | v :: vs, hm => by
    unfold wipe
    by_cases hi : i ∈ vs
    · rw [wipe_set hi]
    · have e : i = v := by
        rcases List.mem_cons.mp hm with z | z
        · exact z
        · exact absurd z hi
      subst e
      clear hm
      induction vs with
      | nil => unfold wipe; rw [List.set_set]
      | cons a as ih =>
        have ha : a ≠ i := fun z => hi (by rw [z]; exact List.mem_cons_self)
        have has : i ∉ as := fun z => hi (List.mem_cons_of_mem _ z)
        have := ih has
        unfold wipe
        rw [List.set_comm _ _ ha, this, List.set_comm _ _ ha]
def RdG (K : PySem.W.Frag) (G : Nat → Option Addr) (t : Tg) : TG := fun v σ H Q => ∃ (ρ : List Addr) (h : MH) (env : ME) (d : D) (e' : ME), Rel K G ρ h H ∧ REnv K G ρ H env σ ∧ RD K G ρ H d v ∧ asg h t d env = some e' ∧
  ∀ σ', REnv K G ρ H e' σ' → (∀ vs : List Nat, (∀ i ∈ t.slots, i ∈ vs) → wipe σ' vs = wipe σ vs) → Q σ' H
def RdGs (K : PySem.W.Frag) (G : Nat → Option Addr) (ts : List Tg) : TGs := fun vs σ H Q => ∃ (ρ : List Addr) (h : MH) (env : ME) (ds : List D) (e' : ME), Rel K G ρ h H ∧ REnv K G ρ H env σ ∧ RDs K G ρ H ds vs ∧ asgs h ts ds env = some e' ∧
  ∀ σ', REnv K G ρ H e' σ' → (∀ vs : List Nat, (∀ i ∈ Tg.slotss ts, i ∈ vs) → wipe σ' vs = wipe σ vs) → Q σ' H
theorem PG.imp {tg : Expr} {t t' : TG} (p : PG X tg t) (k : ∀ v σ H Q, t' v σ H Q → t v σ H Q) : PG X tg t' := ⟨fun pins s σ H v u Q I r q => p.run pins s σ H v u Q I r (k _ _ _ _ q)⟩
theorem PGs.imp {tg : List Expr} {t t' : TGs} (p : PGs X tg t) (k : ∀ v σ H Q, t' v σ H Q → t v σ H Q) : PGs X tg t' := ⟨fun pins s σ H v u Q I r q => p.run pins s σ H v u Q I r (k _ _ _ _ q)⟩
theorem PG.or {tg : Expr} {t t' : TG} (p : PG X tg t) (p' : PG X tg t') : PG X tg (fun v σ H Q => t v σ H Q ∨ t' v σ H Q) := ⟨fun pins s σ H v u Q I r q => q.elim (p.run pins s σ H v u Q I r) (p'.run pins s σ H v u Q I r)⟩
theorem mg_nm (i : Nat) {x : Str} (hN : X.N.Nodup) (hi : X.N[i]? = some x) (hx : Loc X.env.scope x) (hf : X.fn x = true ∨ X.env.scope.names.lookup x = some .local := by first | exact .inl rfl | exact .inr rfl | assumption) : PG X (.Name x pos) (RdG X.K G (.nm i)) := by
  refine PG.imp (pg_name hN hi hx hf) fun v σ H Q q => ?_
  obtain ⟨ρ, h, env, d, e', r, re, rd, ea, k⟩ := q
  cases ea
  exact k _ (re.set rd) fun vs hm => wipe_set (hm i (by simp [Tg.slots]))
theorem mgs_nil : PGs X [] (RdGs X.K G []) := by
  refine PGs.imp pgs_nil fun v σ H Q q => ?_
  obtain ⟨ρ, h, env, ds, e', r, re, rd, ea, k⟩ := q
  cases rd with
  | nil => cases ea; exact ⟨rfl, k σ re fun _ _ => rfl⟩
  | cons a b => cases ea
theorem mgs_cons {e : Expr} {es : List Expr} {t : Tg} {ts : List Tg} (h1 : PG X e (RdG X.K G t)) (h2 : PGs X es (RdGs X.K G ts))
    (hs : (assignEach (e :: es) X.env).map (·.2) = assign e X.env :: (assignEach es X.env).map (·.2) := by rfl) : PGs X (e :: es) (RdGs X.K G (t :: ts)) := by
  refine PGs.imp (pgs_cons h1 h2 hs) fun v σ H Q q => ?_
  obtain ⟨ρ, h, env, ds, e', r, re, rd, ea, k⟩ := q
  cases rd with
  | nil => cases ea
  | cons a b =>
    simp only [asgs] at ea
    split at ea
    · rename_i e1 e1q
      refine ⟨_, _, rfl, ρ, h, env, _, e1, r, re, a, e1q, fun σ1 re1 wp1 => ?_⟩
      refine ⟨ρ, h, e1, _, e', r, re1, b, ea, fun σ2 re2 wp2 => ?_⟩
      refine k σ2 re2 fun vs hm => ?_
      rw [wp2 vs fun i hi => hm i (by simp [Tg.slotss, hi]), wp1 vs fun i hi => hm i (by simp [Tg.slotss, hi])]
    · cases ea
theorem mg_tp {es : List Expr} {k : Nat} {ts : List Tg} {n : Nat} (hc : X.calm = true) (h : PGs X es (RdGs X.K G ts)) (hl : ts.length = n)
    (hn : (assignEach es X.env).length = n := by rfl) (hst : (assignEach es X.env).findIdx? (·.1) = none := by rfl) : PG X (.Tuple es k pos) (RdG X.K G (.tp ts)) := by
  refine PG.imp (PG.or (pg_tup hc h hn hst) (pg_unl hc h hn hst)) fun v σ H Q q => ?_
  obtain ⟨ρ, h, env, d, e', r, re, rd, ea, kk⟩ := q
  have len : ∀ (ts : List Tg) (ds : List D) (e e' : ME), asgs h ts ds e = some e' → ds.length = ts.length := by
    intro ts
    induction ts with
    | nil => intro ds e e' q; cases ds with
      | nil => rfl
      | cons a b => cases q
    | cons t ts ih => intro ds e e' q; cases ds with
      | nil => cases q
      | cons a b =>
        simp only [asgs] at q
        split at q
        · rw [List.length_cons, List.length_cons, ih _ _ _ q]
        · cases q
  simp only [asg] at ea
  split at ea
  · rename_i ds ei
    cases rd with
    | tup sa da =>
      cases ei
      exact .inl ⟨_, _, rfl, sa, by rw [← da.length, len _ _ _ _ ea, hl], ρ, h, env, _, e', r, re, da, ea, fun σ' a b => kk σ' a fun vs hm => b vs fun i hi => hm i (by simpa [Tg.slots] using hi)⟩
    | ref ha =>
      obtain ⟨a1, ys, p1, p2, p3⟩ := r.seq ei
      rw [ha] at p1; cases p1
      exact .inr ⟨_, _, rfl, p2, by rw [← p3.length, len _ _ _ _ ea, hl], ρ, h, env, _, e', r, re, p3, ea, fun σ' a b => kk σ' a fun vs hm => b vs fun i hi => hm i (by simpa [Tg.slots] using hi)⟩
    | _ => cases ei
  · cases ea
/-- a, b = e -/
def sAsg (t : Tg) (m : Mx) : Ms := fun env h => (m env h).toS env fun v h1 => match asg h1 t v env with
  | some e1 => .nx e1 h1
  | none => .bad
theorem ms_asg {tg : Expr} {t : Tg} {m : Mx} (he : PE X e (RdE X.K G W m)) (hg : PG X tg (RdG X.K G t)) (hs : swapsWithSole [tg] e pos.line X.env = pure false := by rfl) (hw : swappedStores [tg] e X.env = pure none := by rfl)
    (h1 : (assignEach [tg] X.env).map (·.2) = [assign tg X.env] := by rfl) : PS X (.Assign [tg] e pos) (RdS X.K G W (sAsg t m)) := by
  refine PS.imp (ps_asg he hg hs hw h1) fun D σ H q => ?_
  obtain ⟨ρ, h, env, r, re, w⟩ := q
  refine ⟨ρ, h, env, r, re, WpS.bind w re fun x h1 ρ1 H1 vx f1 r1 q1 re1 w1 => ?_⟩
  cases ea : asg h1 t x env with
  | none => rw [ea] at w1; exact w1.elim
  | some e1 =>
    rw [ea] at w1
    exact ⟨ρ1, h1, env, x, e1, r1, re1, q1, ea, fun σ' re' _ => w1.go r1 re'⟩
/-- a, b = x, y (plain names): no tuple is made -/
def sPar (i j : Nat) (ms : Ma) : Ms := fun env h => (ms env h).toS env fun vs h1 => match vs with
  | [v, w] => .nx ((env.set i (some v)).set j (some w)) h1
  | _ => .bad
theorem ms_par {i j : Nat} {x y : Str} {a b : Expr} {ms : Ma} {px py pt : Pos} {kt k2 pt2} (hc : X.calm = true) (hN : X.N.Nodup) (hi : X.N[i]? = some x) (hj : X.N[j]? = some y) (hij : i ≠ j)
    (hx : X.env.scope.names.lookup x = some .local) (hy : X.env.scope.names.lookup y = some .local) (ha : PA X [a, b] (RdA X.K G W ms))
    (hw : swappedStores [.Tuple [.Name x px, .Name y py] kt pt] (.Tuple [a, b] k2 pt2) X.env = pure (some [x, y]) := by rfl)
    (hs : swapsWithSole [.Tuple [.Name x px, .Name y py] kt pt] (.Tuple [a, b] k2 pt2) pos.line X.env = pure false := by rfl) :
    PS X (.Assign [.Tuple [.Name x px, .Name y py] kt pt] (.Tuple [a, b] k2 pt2) pos) (RdS X.K G W (sPar i j ms)) := by
  refine PS.imp (ps_par hc hN hi hj hij hx hy ha hw hs) fun D σ H q => ?_
  obtain ⟨ρ, h, env, r, re, w⟩ := q
  refine ⟨ρ, h, env, r, re, WpS.bind w re fun vs h1 ρ1 H1 us f1 r1 q1 re1 w1 => ?_⟩
  cases q1 with
  | nil => exact w1.elim
  | cons a1 b1 =>
    cases b1 with
    | nil => exact w1.elim
    | cons a2 b2 =>
      cases b2 with
      | nil => exact ⟨_, _, rfl, w1.go r1 ((re1.set a1).set a2)⟩
      | cons a3 b3 => exact w1.elim
/-- o[i] = e, a list -/
def setD (o i v : D) (h : MH) : Option MH := match o, i with
  | .ref j, .int k => match h.get j with
    | some (.lst xs) => match ixN xs.length k with
      | some n => some (h.set j (.lst (xs.set n v)))
      | none => none
    | _ => none
  | _, _ => none
def sSub (mo mi m : Mx) : Ms := fun env h => (m env h).toS env fun v h1 => (mo env h1).toS env fun o h2 => (mi env h2).toS env fun i h3 => match setD o i v h3 with
  | some h4 => .nx env h4
  | none => .bad
theorem ms_sub {o i : Expr} {mo mi m : Mx} {p : Pos} (he : PE X e (RdE X.K G W m)) (ho : PE X o (RdE X.K G W mo)) (hi : PE X i (RdE X.K G W mi))
    (ha : ∀ v, assign (.Subscript o i p) X.env v = (do
      let ov ← holding [v] (eval o X.env)
      let iv ← holding [v, ov] (eval i X.env)
      standAt p
      holding [v, ov, iv] (setItem ov iv v)
      release [v, ov, iv] []) := by intro _; rfl) (hs : swapsWithSole [.Subscript o i p] e pos.line X.env = pure false := by rfl) (hw : swappedStores [.Subscript o i p] e X.env = pure none := by rfl)
    (h1 : (assignEach [.Subscript o i p] X.env).map (·.2) = [assign (.Subscript o i p) X.env] := by rfl) : PS X (.Assign [.Subscript o i p] e pos) (RdS X.K G W (sSub mo mi m)) := by
  refine PS.imp (ps_asg he (pg_sub ho hi set_list ha) hs hw h1) fun D σ H q => ?_
  obtain ⟨ρ, h, env, r, re, w⟩ := q
  refine ⟨ρ, h, env, r, re, WpS.bind w re fun x h1 ρ1 H1 vx f1 r1 q1 re1 w1 => ?_⟩
  refine ⟨ρ1, h1, env, r1, re1, WpS.bind w1 re1 fun o h2 ρ2 H2 vo f2 r2 q2 re2 w2 => ?_⟩
  refine ⟨ρ2, h2, env, r2, re2, WpS.bind w2 re2 fun i h3 ρ3 H3 vi f3 r3 q3 re3 w3 => ?_⟩
  cases es : setD o i x h3 with
  | none => rw [es] at w3; exact w3.elim
  | some h4 =>
    rw [es] at w3
    unfold setD at es
    split at es
    · split at es
      · rename_i xs g1
        split at es
        · rename_i n en
          cases es
          obtain ⟨a1, ys, p1, p2, p3⟩ := r3.lst g1
          have q2' := q2.fut f3
          cases q3
          cases q2' with
          | ref ha =>
            rw [ha] at p1; cases p1
            refine ⟨_, ys, _, n, rfl, rfl, p2, by rw [← p3.length]; exact en, ?_⟩
            have fu : Fut X.K ρ3 H3 ρ3 (upd H3 a1 (.lst (ys.set n vx))) := Fut.updS ha (by rw [p2]; exact .lst _)
            have rs : RDs X.K G ρ3 H3 (xs.set n x) (ys.set n vx) := p3.set n ((q1.fut f2).fut f3)
            exact w3 ρ3 _ σ fu (r3.set g1 rfl rfl ha (by rw [p2]; exact .lst _) ⟨_, upd_same, rs.fut fu⟩) (re3.fut fu)
        · cases es
      · cases es
    · cases es

/-! ### what is walked -/
/-- a list or a tuple, to be walked -/
inductive ZS where
  | l (i n : Nat) | t (xs : List D)
def ZS.n : ZS → Nat
  | .l _ n => n
  | .t xs => xs.length
inductive MI where
  | lst (i n : Nat) | tup (xs : List D) | rng (lo : Int) (n : Nat) | enm (i n : Nat) | zipL (i j n : Nat) | zipT (xs ys : List D) | dks (i n : Nat) | dvs (i n : Nat) | rngc (lo c : Int) (n : Nat) | enk (s : ZS) (k : Int) | zp (s t : ZS) | dis (i n : Nat)
def MI.n : MI → Nat
  | .lst _ n => n
  | .tup xs => xs.length
  | .rng _ n => n
  | .enm _ n => n
  | .zipL _ _ n => n
  | .zipT xs ys => min xs.length ys.length
  | .dks _ n => n
  | .dvs _ n => n
  | .rngc _ _ n => n
  | .enk s _ => s.n
  | .zp s t => min s.n t.n
  | .dis _ n => n
def keyD : Key → D
  | .inl i => .int i
  | .inr x => .str x
/-- the keys, the values of a locked dict -/
def MI.keysS (h : MH) (i : Nat) : Option (List D) := match h.get i with
  | some (.rct kvs) => some (kvs.map fun p => keyD p.1)
  | some (.rdt kvs) => some (kvs.map fun p => p.1)
  | _ => none
def MI.valsS (h : MH) (i : Nat) : Option (List D) := match h.get i with
  | some (.rct kvs) => some (kvs.map fun p => p.2)
  | _ => none
/-- as long as it was -/
def eqL (o : Option (List D)) (n : Nat) : Bool := match o with
  | some xs => eqLen xs n
  | none => false
theorem eqL_some {o : Option (List D)} {n : Nat} (h : eqL o n = true) : ∃ xs, o = some xs ∧ xs.length = n := by
  unfold eqL at h
  split at h
  · exact ⟨_, rfl, eqLen_iff.mp h⟩
  · cases h
def MI.prsS (h : MH) (i : Nat) : Option (List D) := match h.get i with
  | some (.rct kvs) => some (kvs.map fun p => .tup [keyD p.1, p.2])
  | _ => none
def MI.seqN (h : MH) (i n : Nat) : Option (List D) := match h.seq i with
  | some xs => if xs.length = n then some xs else none
  | none => none
def ZS.items (h : MH) : ZS → Option (List D)
  | .l i n => MI.seqN h i n
  | .t xs => some xs
def ZS.see (h : MH) : ZS → Option (List D)
  | .l i _ => h.seq i
  | .t xs => some xs
def MI.at (h : MH) (k : Nat) : MI → Option D
  | .lst i _ => match h.seq i with
    | some xs => xs[k]?
    | none => none
  | .tup xs => xs[k]?
  | .rng lo _ => some (.int (lo + k))
  | .enm i _ => match h.seq i with
    | some xs => (xs[k]?).map fun d => .tup [.int k, d]
    | none => none
  | .zipL i j _ => match h.seq i, h.seq j with
    | some xs, some ys => match xs[k]?, ys[k]? with
      | some x, some y => some (.tup [x, y])
      | _, _ => none
    | _, _ => none
  | .zipT xs ys => match xs[k]?, ys[k]? with
    | some x, some y => some (.tup [x, y])
    | _, _ => none
  | .dks i _ => match MI.keysS h i with
    | some xs => xs[k]?
    | none => none
  | .dvs i _ => match MI.valsS h i with
    | some xs => xs[k]?
    | none => none
  | .dis i _ => match MI.prsS h i with
    | some xs => xs[k]?
    | none => none
  | .rngc lo c _ => some (.int (lo + (k : Nat) * c))
  | .enk s k0 => match s.see h with
    | some xs => (xs[k]?).map fun d => .tup [.int (k0 + (k : Nat)), d]
    | none => none
  | .zp s t => match s.see h, t.see h with
    | some xs, some ys => match xs[k]?, ys[k]? with
      | some x, some y => some (.tup [x, y])
      | _, _ => none
    | _, _ => none
def MI.fin (h : MH) : MI → Bool
  | .lst i n => (MI.seqN h i n).isSome
  | .enm i n => (MI.seqN h i n).isSome
  | .zipL i j n => match h.seq i, h.seq j with
    | some xs, some ys => decide (n = min xs.length ys.length)
    | _, _ => false
  | .dks i n => eqL (MI.keysS h i) n
  | .dvs i n => eqL (MI.valsS h i) n
  | .dis i n => eqL (MI.prsS h i) n
  | .enk s _ => (s.items h).isSome
  | .zp s t => (s.items h).isSome && (t.items h).isSome
  | _ => true
/-- an iterator of the text's and ours -/
def RIt (K : PySem.W.Frag) (G : Nat → Option Addr) (ρ0 : List Addr) (H0 : Hp) (it : MI) (J : It) : Prop :=
  ∀ (k : Nat) (ρ : List Addr) (h : MH) (H : Hp), Fut K ρ0 H0 ρ H → Rel K G ρ h H →
    (∀ d, k < it.n → it.at h k = some d → J.go k H ∧ ∀ x H', J.yld k H x H' → Fut K ρ H ρ H' ∧ Rel K G ρ h H' ∧ RD K G ρ H' d x) ∧ (it.fin h = true → J.stop it.n H)
abbrev Mi := ME → MH → Res MI
def RdI (K : PySem.W.Frag) (G : Nat → Option Addr) (W : WX) (m : Mi) : TI := fun σ H R => ∃ (ρ : List Addr) (h : MH) (env : ME), Rel K G ρ h H ∧ REnv K G ρ H env σ ∧ Wp K G (RIt K G) ρ H (m env h) R (fun c d H' => W c d σ H')
theorem PI.imp {tg iter : Expr} {t t' : TI} (p : PI X tg iter t) (k : ∀ σ H Q, t' σ H Q → t σ H Q) : PI X tg iter t' := ⟨fun pins s σ H Q I q => p.run pins s σ H Q I (k _ _ _ q)⟩
theorem PI.or {tg iter : Expr} {te : TE} {K : PySem.W.Frag} (he : PE X iter te) (p : PI X tg iter (iList X.K te)) (p' : PI X tg iter (iTup X.K te)) : True := trivial
theorem seqN_of {K : PySem.W.Frag} {ρ : List Addr} {h : MH} {H : Hp} {i n : Nat} {xs : List D} (R : Rel K G ρ h H) (e : MI.seqN h i n = some xs) : ∃ a ys, ρ[i]? = some a ∧ SqL K H a ys ∧ RDs K G ρ H xs ys ∧ ys.length = n := by
  unfold MI.seqN at e
  split at e
  · rename_i zs ez
    split at e
    · rename_i hl
      cases e
      obtain ⟨a, ys, h1, h2, h3⟩ := R.seq ez
      exact ⟨a, ys, h1, h2, h3, by rw [← h3.length, hl]⟩
    · cases e
  · cases e
/-- a list, a tuple as it stands -/
def iSeq (m : Mx) : Mi := fun env h => (m env h).bind fun x h1 => match x with
  | .tup xs => .ok (.tup xs) h1
  | .ref i => match h1.seq i with
    | some xs => .ok (.lst i xs.length) h1
    | none => .bad
  | _ => .bad
theorem pi_seq {tg l : Expr} {tl : TE} (hl : PE X l tl) : PI X tg l (fun σ H R => tl σ H fun x H1 => ∃ a, x = .ref a ∧ (((∃ xs, SqL X.K H1 a xs) ∧ R (Itl X.K a) H1) ∨ ((∃ xs, SqT X.K H1 a xs) ∧ R (Itt X.K a) H1))) := by
  refine ⟨fun pins s σ H R I h => ?_⟩
  refine thn (hl.run pins s σ H _ I h) fun v s1 ⟨x, H1, I1, r1, q1⟩ => ?_
  obtain ⟨a, e, q⟩ := q1
  subst e
  cases r1
  rcases q with ⟨⟨xs, hq⟩, q⟩ | ⟨⟨xs, hq⟩, q⟩
  · obtain ⟨its, rv, p, hz⟩ := I1.list hq
    refine wpAny_pyIter_list p.isList ?_
    refine ⟨s1.heap.objs.size, [s1.heap.objs.size], _, _, H1, rfl, I1.kept (t' := s1.toks) fun b o e => Heap.get?_push_of_some _ e, turn_list a _, ⟨_, Heap.get?_push_size _ rfl, rfl, rfl⟩, fun b hb => ?_, q⟩
    have e : b = s1.heap.objs.size := by simpa using hb
    subst e
    exact I1.fpOk (Nat.le_refl _) (I1.hok.fresh (Nat.le_refl _))
  · obtain ⟨its, rv, p, hz⟩ := I1.tuple hq
    refine wpAny_pyIter_tuple (show s1.heap.IsTuple a its.toArray from p) ?_
    refine ⟨s1.heap.objs.size, [s1.heap.objs.size], _, _, H1, rfl, I1.kept (t' := s1.toks) fun b o e => Heap.get?_push_of_some _ e, turn_tuple a _, ⟨_, Heap.get?_push_size _ rfl, rfl, rfl⟩, fun b hb => ?_, q⟩
    have e : b = s1.heap.objs.size := by simpa using hb
    subst e
    exact I1.fpOk (Nat.le_refl _) (I1.hok.fresh (Nat.le_refl _))
theorem rit_lst {K : PySem.W.Frag} {ρ0 : List Addr} {H0 : Hp} {i n : Nat} {a : Addr} (e : ρ0[i]? = some a) : RIt K G ρ0 H0 (.lst i n) (Itl K a) := by
  intro k ρ h H f R
  refine ⟨fun d hk ed => ?_, fun ef => ?_⟩
  · simp only [MI.at] at ed
    split at ed
    · rename_i xs es
      obtain ⟨a', ys, h1, h2, h3⟩ := R.seq es
      rw [f.at e] at h1; cases h1
      obtain ⟨y, g1, g2⟩ := h3.get ed
      refine ⟨⟨ys, y, h2, g1⟩, fun x H' hy => ?_⟩
      obtain ⟨rfl, hy⟩ := hy
      have := hy ys h2
      rw [g1] at this; cases this
      exact ⟨.refl, R, g2⟩
    · cases ed
  · simp only [MI.fin, Option.isSome_iff_exists] at ef
    obtain ⟨xs, es⟩ := ef
    obtain ⟨a', ys, h1, h2, h3, h4⟩ := seqN_of R es
    rw [f.at e] at h1; cases h1
    exact ⟨ys, h2, by rw [h4]; exact Nat.le_refl _⟩
theorem rit_tup {K : PySem.W.Frag} {ρ0 : List Addr} {H0 : Hp} {xs : List D} {ys : List V} {a : Addr} (e : SqT K H0 a ys) (r : RDs K G ρ0 H0 xs ys) : RIt K G ρ0 H0 (.tup xs) (Itt K a) := by
  intro k ρ h H f R
  have e1 := f.tup _ _ e
  have r1 := r.fut f
  refine ⟨fun d hk ed => ?_, fun ef => ?_⟩
  · obtain ⟨y, g1, g2⟩ := r1.get ed
    refine ⟨⟨ys, y, e1, g1⟩, fun x H' hy => ?_⟩
    obtain ⟨rfl, hy⟩ := hy
    have := hy ys e1
    rw [g1] at this; cases this
    exact ⟨.refl, R, g2⟩
  · exact ⟨ys, e1, by rw [← r1.length]; exact Nat.le_refl _⟩
theorem mi_seq {tg : Expr} {m : Mx} (he : PE X e (RdE X.K G W m)) : PI X tg e (RdI X.K G W (iSeq m)) := by
  refine PI.imp (pi_seq he) fun σ H Q q => ?_
  obtain ⟨ρ, h, env, r, re, w⟩ := q
  refine ⟨ρ, h, env, r, re, Wp.bind w fun x h1 ρ1 H1 vx f1 r1 q1 w1 => ?_⟩
  cases q1 with
  | tup sa da => exact ⟨_, rfl, .inr ⟨⟨_, sa⟩, w1.ret r1 (rit_tup sa da)⟩⟩
  | @ref i a ha =>
    cases es : h1.seq i with
    | none => simp only [es] at w1; exact w1.elim
    | some xs =>
      simp only [es] at w1
      obtain ⟨a1, ys, p1, p2, p3⟩ := r1.seq es
      rw [ha] at p1; cases p1
      exact ⟨_, rfl, .inl ⟨⟨_, p2⟩, w1.ret r1 (rit_lst ha)⟩⟩
  | _ => exact w1.elim
def iRng1M (ms : Ma) : Mi := fun env h => (ms env h).bind fun vs h1 => match vs with
  | [.int j] => if -(2 ^ 62) ≤ j ∧ j < 2 ^ 62 then .ok (.rng 0 j.toNat) h1 else .bad
  | _ => .bad
def iRng2M (ms : Ma) : Mi := fun env h => (ms env h).bind fun vs h1 => match vs with
  | [.int i, .int j] => if -(2 ^ 62) ≤ i ∧ i < 2 ^ 62 ∧ -(2 ^ 62) ≤ j ∧ j < 2 ^ 62 then .ok (.rng i (j - i).toNat) h1 else .bad
  | _ => .bad
theorem rit_rng {K : PySem.W.Frag} {ρ0 : List Addr} {H0 : Hp} {lo : Int} {n : Nat} : RIt K G ρ0 H0 (.rng lo n) (Itr lo n) := by
  intro k ρ h H f R
  refine ⟨fun d hk ed => ⟨hk, fun x H' hy => ?_⟩, fun _ => Nat.le_refl _⟩
  obtain ⟨rfl, rfl⟩ := hy
  cases ed
  exact ⟨.refl, R, .int _⟩
theorem mi_rng1 {tg a : Expr} {ms : Ma} {p : Pos} (hg : Gl X "range") (hm : X.mg "range" = none) (ha : PA X [a] (RdA X.K G W ms)) (hs : starEach [a] X.env = [(false, eval a X.env)] := by rfl) : PI X tg (.Call (.Name "range" p) [a] [] pos) (RdI X.K G W (iRng1M ms)) := by
  refine PI.imp (pi_range1 hg hm ha hs) fun σ H Q q => ?_
  obtain ⟨ρ, h, env, r, re, w⟩ := q
  refine ⟨ρ, h, env, r, re, Wp.bind w fun vs h1 ρ1 H1 us f1 r1 q1 w1 => ?_⟩
  cases q1 with
  | nil => exact w1.elim
  | cons a1 b1 =>
    cases b1 with
    | cons a2 b2 => cases a1 <;> exact w1.elim
    | nil =>
      cases a1 with
      | int j =>
        simp only at w1
        split at w1
        · rename_i hc
          exact ⟨j, rfl, hc.1, hc.2, w1.ret r1 rit_rng⟩
        · exact w1.elim
      | _ => exact w1.elim
theorem mi_rng2 {tg a b : Expr} {ms : Ma} {p : Pos} (hg : Gl X "range") (hm : X.mg "range" = none) (ha : PA X [a, b] (RdA X.K G W ms)) (hs : starEach [a, b] X.env = [(false, eval a X.env), (false, eval b X.env)] := by rfl) (hs2 : starEach [b] X.env = [(false, eval b X.env)] := by rfl) :
    PI X tg (.Call (.Name "range" p) [a, b] [] pos) (RdI X.K G W (iRng2M ms)) := by
  refine PI.imp (pi_range2 hg hm ha hs hs2) fun σ H Q q => ?_
  obtain ⟨ρ, h, env, r, re, w⟩ := q
  refine ⟨ρ, h, env, r, re, Wp.bind w fun vs h1 ρ1 H1 us f1 r1 q1 w1 => ?_⟩
  split at w1
  · rename_i i j
    split at w1
    · rename_i hc
      cases q1 with
      | cons a1 b1 =>
        cases b1 with
        | cons a2 b2 =>
          cases b2; cases a1; cases a2
          exact ⟨i, j, rfl, hc, w1.ret r1 rit_rng⟩
    · exact w1.elim
  · exact w1.elim
/-- enumerate(list) -/
def iEnumM (ms : Ma) : Mi := fun env h => (ms env h).bind fun vs h1 => match vs with
  | [.ref i] => match h1.seq i with
    | some xs => .ok (.enm i xs.length) h1
    | none => .bad
  | _ => .bad
theorem rit_enm {K : PySem.W.Frag} {ρ0 : List Addr} {H0 : Hp} {i n : Nat} {a : Addr} (e : ρ0[i]? = some a) : RIt K G ρ0 H0 (.enm i n) (Ite K a) := by
  intro k ρ h H f R
  refine ⟨fun d hk ed => ?_, fun ef => ?_⟩
  · simp only [MI.at] at ed
    split at ed
    · rename_i xs es
      rw [Option.map_eq_some_iff] at ed
      obtain ⟨z, ed, rfl⟩ := ed
      obtain ⟨a', ys, h1, h2, h3⟩ := R.seq es
      rw [f.at e] at h1; cases h1
      obtain ⟨y, g1, g2⟩ := h3.get ed
      refine ⟨⟨ys, y, h2, g1⟩, fun x H' hy => ?_⟩
      obtain ⟨T, x1, rfl, nT, rfl, hx⟩ := hy
      have := hx ys h2
      rw [g1] at this; cases this
      exact new_tup R nT (.cons (.int _) (.cons g2 .nil))
    · cases ed
  · simp only [MI.fin, Option.isSome_iff_exists] at ef
    obtain ⟨xs, es⟩ := ef
    obtain ⟨a', ys, h1, h2, h3, h4⟩ := seqN_of R es
    rw [f.at e] at h1; cases h1
    exact ⟨ys, h2, by rw [h4]; exact Nat.le_refl _⟩
theorem mi_enum {a : Expr} {ms : Ma} {p tpos : Pos} {elts : List Expr} {kk : Nat} (hg : Gl X "enumerate") (hm : X.mg "enumerate" = none) (ha : PA X [a] (RdA X.K G W ms)) (hs : starEach [a] X.env = [(false, eval a X.env)] := by rfl) :
    PI X (.Tuple elts kk tpos) (.Call (.Name "enumerate" p) [a] [] pos) (RdI X.K G W (iEnumM ms)) := by
  refine PI.imp (pi_enum hg hm ha hs) fun σ H Q q => ?_
  obtain ⟨ρ, h, env, r, re, w⟩ := q
  refine ⟨ρ, h, env, r, re, Wp.bind w fun vs h1 ρ1 H1 us f1 r1 q1 w1 => ?_⟩
  split at w1
  · rename_i i
    cases es : h1.seq i with
    | none => simp only [es] at w1; exact w1.elim
    | some xs =>
      simp only [es] at w1
      obtain ⟨a1, ys, p1, p2, p3⟩ := r1.seq es
      cases q1 with
      | cons b1 b2 =>
        cases b2
        cases b1 with
        | ref ha =>
          rw [ha] at p1; cases p1
          exact ⟨_, _, rfl, p2, w1.ret r1 (rit_enm ha)⟩
  · exact w1.elim
/-- zip of two lists, of two tuples -/
def iZipM (ms : Ma) : Mi := fun env h => (ms env h).bind fun vs h1 => match vs with
  | [.ref i, .ref j] => match h1.seq i, h1.seq j with
    | some xs, some ys => .ok (.zipL i j (min xs.length ys.length)) h1
    | _, _ => .bad
  | [.tup xs, .tup ys] => .ok (.zipT xs ys) h1
  | _ => .bad
theorem rit_zipL {K : PySem.W.Frag} {ρ0 : List Addr} {H0 : Hp} {i j n : Nat} {a b : Addr} (e : ρ0[i]? = some a) (e' : ρ0[j]? = some b) : RIt K G ρ0 H0 (.zipL i j n) (Itz K a b) := by
  intro k ρ h H f R
  refine ⟨fun d hk ed => ?_, fun ef => ?_⟩
  · simp only [MI.at] at ed
    split at ed
    · rename_i xs ys es1 es2
      split at ed
      · rename_i x y ex ey
        cases ed
        obtain ⟨a', us, h1, h2, h3⟩ := R.seq es1
        obtain ⟨b', ws, h4, h5, h6⟩ := R.seq es2
        rw [f.at e] at h1; cases h1
        rw [f.at e'] at h4; cases h4
        obtain ⟨u, g1, g2⟩ := h3.get ex
        obtain ⟨v, g3, g4⟩ := h6.get ey
        refine ⟨⟨us, ws, u, v, h2, h5, g1, g3⟩, fun x H' hy => ?_⟩
        obtain ⟨T, x1, x2, rfl, nT, rfl, q1, q2⟩ := hy
        have z1 := q1 us h2
        have z2 := q2 ws h5
        rw [g1] at z1; cases z1
        rw [g3] at z2; cases z2
        exact new_tup R nT (.cons g2 (.cons g4 .nil))
      · cases ed
    · cases ed
  · simp only [MI.fin] at ef
    split at ef
    · rename_i xs ys es1 es2
      have hn : n = min xs.length ys.length := of_decide_eq_true ef
      obtain ⟨a', us, h1, h2, h3⟩ := R.seq es1
      obtain ⟨b', ws, h4, h5, h6⟩ := R.seq es2
      rw [f.at e] at h1; cases h1
      rw [f.at e'] at h4; cases h4
      refine ⟨us, ws, h2, h5, ?_⟩
      rw [← h3.length, ← h6.length]
      show _ ≤ n ∨ _ ≤ n
      omega
    · cases ef
theorem rit_zipT {K : PySem.W.Frag} {ρ0 : List Addr} {H0 : Hp} {xs ys : List D} {us ws : List V} {a b : Addr} (e : SqT K H0 a us) (r : RDs K G ρ0 H0 xs us) (e' : SqT K H0 b ws) (r' : RDs K G ρ0 H0 ys ws) : RIt K G ρ0 H0 (.zipT xs ys) (RZ.ItzT K a b) := by
  intro k ρ h H f R
  have h2 := f.tup _ _ e
  have h3 := r.fut f
  have h5 := f.tup _ _ e'
  have h6 := r'.fut f
  refine ⟨fun d hk ed => ?_, fun ef => ?_⟩
  · simp only [MI.at] at ed
    split at ed
    · rename_i x y ex ey
      cases ed
      obtain ⟨u, g1, g2⟩ := h3.get ex
      obtain ⟨v, g3, g4⟩ := h6.get ey
      refine ⟨⟨us, ws, u, v, h2, h5, g1, g3⟩, fun x H' hy => ?_⟩
      obtain ⟨T, x1, x2, rfl, nT, rfl, q1, q2⟩ := hy
      have z1 := q1 us h2
      have z2 := q2 ws h5
      rw [g1] at z1; cases z1
      rw [g3] at z2; cases z2
      exact new_tup R nT (.cons g2 (.cons g4 .nil))
    · cases ed
  · refine ⟨us, ws, h2, h5, ?_⟩
    rw [← h3.length, ← h6.length]
    show _ ≤ min xs.length ys.length ∨ _ ≤ min xs.length ys.length
    omega
theorem mi_zip {a b : Expr} {ms : Ma} {p tpos : Pos} {elts : List Expr} {kk : Nat} (hg : Gl X "zip") (hm : X.mg "zip" = none) (ha : PA X [a, b] (RdA X.K G W ms)) (hs : starEach [a, b] X.env = (false, eval a X.env) :: starEach [b] X.env := by rfl) (hpl : (backTo pos (starEach [b] X.env)).any (·.1) = false := by rfl) :
    PI X (.Tuple elts kk tpos) (.Call (.Name "zip" p) [a, b] [] pos) (RdI X.K G W (iZipM ms)) := by
  refine PI.imp (RZ.pi_zipA hg hm ha hs hpl) fun σ H Q q => ?_
  obtain ⟨ρ, h, env, r, re, w⟩ := q
  refine ⟨ρ, h, env, r, re, Wp.bind w fun vs h1 ρ1 H1 us f1 r1 q1 w1 => ?_⟩
  split at w1
  · rename_i i j
    split at w1
    · rename_i xs ys es1 es2
      obtain ⟨a1, us, p1, p2, p3⟩ := r1.seq es1
      obtain ⟨a2, ws, p4, p5, p6⟩ := r1.seq es2
      cases q1 with
      | cons b1 b2 =>
        cases b2 with
        | cons b2 b3 =>
          cases b3
          cases b1 with
          | ref ha =>
            cases b2 with
            | ref hb =>
              rw [ha] at p1; cases p1
              rw [hb] at p4; cases p4
              exact ⟨_, _, _, _, rfl, .inl ⟨p2, p5, w1.ret r1 (rit_zipL ha hb)⟩⟩
    · exact w1.elim
  · cases q1 with
    | cons b1 b2 =>
      cases b2 with
      | cons b2 b3 =>
        cases b3
        cases b1 with
        | tup sa da =>
          cases b2 with
          | tup sb db => exact ⟨_, _, _, _, rfl, .inr ⟨sa, sb, w1.ret r1 (rit_zipT sa da sb db)⟩⟩
  · exact w1.elim

/-! ### for -/
def forL (it : MI) (t : Tg) (body : Ms) : Nat → Nat → ME → MH → SR
  | 0, _, env, h => if it.fin h = true then .nx env h else .bad
  | r + 1, k, env, h => match it.at h k with
    | none => .bad
    | some d => match asg h t d env with
      | none => .bad
      | some e1 => match body e1 h with
        | .nx e2 h2 => forL it t body r (k + 1) e2 h2
        | .ct e2 h2 => forL it t body r (k + 1) e2 h2
        | .bk e2 h2 => .nx e2 h2
        | .rt v h2 => .rt v h2
        | .exc C fs e2 h2 => .exc C fs e2 h2
        | .bad => .bad
def sFor (mi : Mi) (t : Tg) (body : Ms) : Ms := fun env h => (mi env h).toS env fun it h1 => forL it t body it.n 0 env h1
theorem ms_for {tg iter : Expr} {body : List Stmt} {mi : Mi} {t : Tg} {mb : Ms} (hp : PassesOwn (model X.prog X.w) X.A X.env X.xe) (hc : X.calm = true) (hi : PI X tg iter (RdI X.K G W mi)) (hg : PG X tg (RdG X.K G t)) (hb : PSs X body (RdS X.K G W mb))
    (hs : ∀ x, foldedSetIterable iter X.env x = pure x := by intro _; rfl) : PS X (.For tg iter body [] pos) (RdS X.K G W (sFor mi t mb)) := by
  refine PS.imp (ps_for hp hc hi hg hb hs) fun D σ H q => ?_
  obtain ⟨ρ, h, env, r, re, w⟩ := q
  refine ⟨ρ, h, env, r, re, WpS.bind w re fun it h1 ρ0 H0 J f0 r0 q0 re0 w0 => ?_⟩
  refine ⟨fun i m σ H => m = it.n - i ∧ i ≤ it.n ∧ ∃ (ρ : List Addr) (h : MH) (env : ME), Fut X.K ρ0 H0 ρ H ∧ Rel X.K G ρ h H ∧ REnv X.K G ρ H env σ ∧ WpS X.K G W ρ H (forL it t mb (it.n - i) i env h) D,
    ⟨it.n, rfl, Nat.zero_le _, ρ0, h1, env, .refl, r0, re0, w0⟩, ?_⟩
  rintro i m σ H ⟨rfl, hi, ρ, h, env, f, r, re, w⟩
  obtain ⟨q1, q2⟩ := q0 i ρ h H f r
  by_cases hlt : i < it.n
  · obtain ⟨rem, er⟩ : ∃ rem, it.n - i = rem + 1 := ⟨it.n - i - 1, by omega⟩
    rw [er, forL] at w
    split at w
    · exact w.elim
    · rename_i d ed
      split at w
      · exact w.elim
      · rename_i e1 ea
        obtain ⟨hgo, hy⟩ := q1 d hlt ed
        refine .inr ⟨hgo, fun σ' H' => ∃ (ρ : List Addr) (h : MH) (env : ME), Fut X.K ρ0 H0 ρ H' ∧ Rel X.K G ρ h H' ∧ REnv X.K G ρ H' env σ' ∧ WpS X.K G W ρ H' (forL it t mb rem (i + 1) env h) D, fun σ' H' p => ?_, fun x H' y => ?_⟩
        · obtain ⟨ρ', h', e', g1, g2, g3, g4⟩ := p
          exact ⟨it.n - (i + 1), by omega, rfl, by omega, ρ', h', e', g1, g2, g3, by rw [show it.n - (i + 1) = rem by omega]; exact g4⟩
        · obtain ⟨f1, r1, rd⟩ := hy x H' y
          refine ⟨ρ, h, env, d, e1, r1, re.fut f1, rd, ea, fun σ2 re2 _ => ⟨ρ, h, e1, r1, re2, ?_⟩⟩
          have w' := WpS.fut f1 w
          cases eb : mb e1 h with
          | nx e2 h2 => rw [eb] at w'; exact fun ρ3 H3 σ3 f3 r3 re3 => ⟨ρ3, h2, e2, (f.trans f1).trans f3, r3, re3, WpS.fut f3 w'⟩
          | ct e2 h2 => rw [eb] at w'; exact fun ρ3 H3 σ3 f3 r3 re3 => ⟨ρ3, h2, e2, (f.trans f1).trans f3, r3, re3, WpS.fut f3 w'⟩
          | bk e2 h2 => rw [eb] at w'; exact w'
          | rt v h2 => rw [eb] at w'; exact w'
          | exc C fs e2 h2 => rw [eb] at w'; exact w'
          | bad => rw [eb] at w'; exact w'.elim
  · have e : i = it.n := by omega
    subst e
    rw [Nat.sub_self, forL] at w
    split at w
    · rename_i ef
      exact .inl ⟨q2 ef, w.go r re⟩
    · exact w.elim

/-! ### while -/
def whL (t : Mt) (body : Ms) : Nat → ME → MH → SR
  | 0, _, _ => .bad
  | f + 1, env, h => (t env h).toS env fun k h1 => match k with
    | false => .nx env h1
    | true => match body env h1 with
      | .nx e2 h2 => whL t body f e2 h2
      | .ct e2 h2 => whL t body f e2 h2
      | .bk e2 h2 => .nx e2 h2
      | .rt v h2 => .rt v h2
      | .exc C fs e2 h2 => .exc C fs e2 h2
      | .bad => .bad
def fuelW : Nat := 1000000
def sWhile (t : Mt) (body : Ms) : Ms := fun env h => whL t body fuelW env h
theorem ms_while {c : Expr} {body : List Stmt} {t : Mt} {mb : Ms} (hp : PassesOwn (model X.prog X.w) X.A X.env X.xe) (hc : PT X c (RdT X.K G W t)) (hb : PSs X body (RdS X.K G W mb)) : PS X (.While c body [] pos) (RdS X.K G W (sWhile t mb)) := by
  refine PS.imp (ps_while hp hc hb) fun D σ H q => ?_
  obtain ⟨ρ, h, env, r, re, w⟩ := q
  refine ⟨fun m σ H => ∃ (ρ : List Addr) (h : MH) (env : ME), Rel X.K G ρ h H ∧ REnv X.K G ρ H env σ ∧ WpS X.K G W ρ H (whL t mb m env h) D, ⟨fuelW, ρ, h, env, r, re, w⟩, ?_⟩
  rintro m σ H ⟨ρ, h, env, r, re, w⟩
  cases m with
  | zero => exact w.elim
  | succ m =>
    refine ⟨ρ, h, env, r, re, WpS.bind w re fun k h1 ρ1 H1 b f1 r1 q1 re1 w1 => ?_⟩
    subst q1
    cases k with
    | false => exact w1.go r1 re1
    | true =>
      refine ⟨fun σ' H' => ∃ (ρ : List Addr) (h : MH) (env : ME), Rel X.K G ρ h H' ∧ REnv X.K G ρ H' env σ' ∧ WpS X.K G W ρ H' (whL t mb m env h) D, fun σ' H' p => ⟨m, Nat.lt_succ_self _, p⟩, ρ1, h1, env, r1, re1, ?_⟩
      cases eb : mb env h1 with
      | nx e2 h2 => rw [eb] at w1; exact fun ρ3 H3 σ3 f3 r3 re3 => ⟨ρ3, h2, e2, r3, re3, WpS.fut f3 w1⟩
      | ct e2 h2 => rw [eb] at w1; exact fun ρ3 H3 σ3 f3 r3 re3 => ⟨ρ3, h2, e2, r3, re3, WpS.fut f3 w1⟩
      | bk e2 h2 => rw [eb] at w1; exact w1
      | rt v h2 => rw [eb] at w1; exact w1
      | exc C fs e2 h2 => rw [eb] at w1; exact w1
      | bad => rw [eb] at w1; exact w1.elim
end
end MM

set_option Elab.async false
set_option linter.all false
set_option maxRecDepth 100000
set_option maxHeartbeats 4000000
set_option autoImplicit false
/-! comprehensions, methods of lists, defs -/
namespace MM
open PySem PySem.Spec PyProof.Rows L2

theorem Rel.lset {K : PySem.W.Frag} {G : Nat → Option Addr} {ρ : List Addr} {H : Hp} {h : MH} {i : Nat} {a : Addr} {ys xs : List V} {ds : List D} {cs : List D} (r : Rel K G ρ h H) (g : h.get i = some (.lst cs)) (e : ρ[i]? = some a) (p : H a = some (.lst ys)) (q : RDs K G ρ H ds xs) :
    Fut K ρ H ρ (upd H a (.lst xs)) ∧ Rel K G ρ (h.set i (.lst ds)) (upd H a (.lst xs)) := by
  have fu : Fut K ρ H ρ (upd H a (.lst xs)) := Fut.updS e (by rw [p]; exact .lst _)
  exact ⟨fu, r.set (o := .lst ds) g rfl rfl e (by rw [p]; exact .lst _) ⟨xs, upd_same, q.fut fu⟩⟩
section
variable {X : Cx} {G : Nat → Option Addr} {W : WX} {e : Expr} {pos : Pos}
/-! ### [elt for t in iter if test] -/
def wipeE (env : ME) : List Nat → ME
  | [] => env
  | v :: vs => (wipeE env vs).set v none
theorem REnv.wipe {K : PySem.W.Frag} {ρ : List Addr} {H : Hp} {env : ME} {σ : L2.St} (r : REnv K G ρ H env σ) : ∀ vs : List Nat, REnv K G ρ H (wipeE env vs) (L2.wipe σ vs)
  | [] => r
  | v :: vs => by
    unfold wipeE L2.wipe
    exact (REnv.wipe r vs).unset2
abbrev W0 : WX := fun _ _ _ _ => False
/-- one item put behind the list at D -/
def pushD (h : MH) (L : Nat) (y : D) : Option MH := match h.get L with
  | some (.lst acc) => if acc.length < sizeLine then some (h.set L (.lst (acc ++ [y]))) else none
  | _ => none
def lcL (it : MI) (t : Tg) (tt : Mt) (te : Mx) (env : ME) (D : Nat) : Nat → Nat → MH → Option MH
  | 0, _, h => if it.fin h = true then some h else none
  | r + 1, k, h => match it.at h k with
    | none => none
    | some d => match asg h t d env with
      | none => none
      | some e1 => match tt e1 h with
        | .ok true h2 => match te e1 h2 with
          | .ok y h3 => match pushD h3 D y with
            | some h4 => lcL it t tt te env D r (k + 1) h4
            | none => none
          | _ => none
        | .ok false h2 => lcL it t tt te env D r (k + 1) h2
        | _ => none
def eLc (mi : Mi) (t : Tg) (tt : Mt) (te : Mx) (own : List Nat) : Mx := fun env h => (mi env h).bind fun it h1 => match lcL it t tt te (wipeE env own) h1.n it.n 0 (h1.add (.lst [])) with
  | some h2 => .ok (.ref h1.n) h2
  | none => .bad
def tYesM : Mt := fun _ h => .ok true h
theorem PTs.imp {ifs : List Expr} {t t' : TT} (p : PTs X ifs t) (k : ∀ σ H Q, t' σ H Q → t σ H Q) : PTs X ifs t' := ⟨fun pins s σ H Q I q => p.run pins s σ H Q I (k _ _ _ q)⟩
theorem mts_nil : PTs X [] (RdT X.K G W tYesM) := PTs.imp pts_nil fun σ H Q ⟨ρ, h, env, r, re, w⟩ => w.ret r rfl
theorem mts_one {c : Expr} {t : Mt} (h : PT X c (RdT X.K G W t)) : PTs X [c] (RdT X.K G W t) := pts_one h
theorem lc_rd {mi : Mi} {t : Tg} {tt : Mt} {te : Mx} {own : List Nat} {σ : L2.St} {H : Hp} {Q : VK} (ho : ∀ i ∈ t.slots, i ∈ own) (q : RdE X.K G W (eLc mi t tt te own) σ H Q) :
    tLc (RdI X.K G W mi) (RdG X.K G t) (RdT X.K G W0 tt) (RdE X.K G W0 te) own σ H Q := by
  obtain ⟨ρ, h, env, r, re, w⟩ := q
  refine ⟨ρ, h, env, r, re, Wp.bind w fun it h1 ρ0 H0 J f0 r0 q0 w0 => ?_⟩
  have re0 := (re.fut f0).wipe own
  intro D nD
  cases el : lcL it t tt te (wipeE env own) h1.n it.n 0 (h1.add (.lst [])) with
  | none => rw [el] at w0; exact w0.elim
  | some hE =>
    rw [el] at w0
    obtain ⟨fN, rN, dN⟩ := new_lst r0 nD RDs.nil
    have atD : ∀ {ρ H}, Fut X.K (ρ0 ++ [D]) (upd H0 D (.lst [])) ρ H → ρ[h1.n]? = some D := fun f => f.at (by rw [← r0.len]; simp)
    refine ⟨fun i m H => m = it.n - i ∧ i ≤ it.n ∧ ∃ (ρ : List Addr) (h : MH), Fut X.K (ρ0 ++ [D]) (upd H0 D (.lst [])) ρ H ∧ Rel X.K G ρ h H ∧ lcL it t tt te (wipeE env own) h1.n (it.n - i) i h = some hE,
      ⟨it.n, rfl, Nat.zero_le _, _, _, .refl, rN, el⟩, ?_⟩
    rintro i m H ⟨rfl, hi, ρ, h, f, r, el⟩
    obtain ⟨q1, q2⟩ := q0 i ρ h H (fN.trans f) r
    by_cases hlt : i < it.n
    · obtain ⟨rem, er⟩ : ∃ rem, it.n - i = rem + 1 := ⟨it.n - i - 1, by omega⟩
      rw [er, lcL] at el
      split at el
      · cases el
      · rename_i d ed
        split at el
        · cases el
        · rename_i e1 ea
          obtain ⟨hgo, hy⟩ := q1 d hlt ed
          refine .inr ⟨hgo, fun H' => ∃ (ρ : List Addr) (h : MH), Fut X.K (ρ0 ++ [D]) (upd H0 D (.lst [])) ρ H' ∧ Rel X.K G ρ h H' ∧ lcL it t tt te (wipeE env own) h1.n rem (i + 1) h = some hE, fun H' p => ?_, fun x H' y => ?_⟩
          · obtain ⟨ρ', h', g1, g2, g3⟩ := p
            exact ⟨it.n - (i + 1), by omega, rfl, by omega, ρ', h', g1, g2, by rw [show it.n - (i + 1) = rem by omega]; exact g3⟩
          · obtain ⟨f1, r1, rd⟩ := hy x H' y
            refine ⟨ρ, h, wipeE env own, d, e1, r1, re0.fut ((fN.trans f).trans f1), rd, ea, fun σ2 re2 wp => ⟨?_, ρ, h, e1, r1, re2, ?_⟩⟩
            · have ww : ∀ vs : List Nat, L2.wipe (L2.wipe σ vs) vs = L2.wipe σ vs := by
                intro vs
                have key : ∀ (ws vs : List Nat) (τ : L2.St), (∀ i ∈ ws, i ∈ vs) → L2.wipe (L2.wipe τ ws) vs = L2.wipe τ vs := by
                  intro ws
                  induction ws with
                  | nil => intro vs τ _; rfl
                  | cons w ws ih =>
                    intro vs τ hm
                    show L2.wipe ((L2.wipe τ ws).set w none) vs = _
                    rw [wipe_set (hm w List.mem_cons_self)]
                    exact ih vs τ fun i hi => hm i (List.mem_cons_of_mem _ hi)
                exact key vs vs σ fun i hi => hi
              rw [wp own ho]
              exact ww own
            · cases eb : tt e1 h with
              | exc C fs h2 => rw [eb] at el; cases el
              | bad => rw [eb] at el; cases el
              | ok k h2 =>
                intro ρ3 H3 b f3 r3 q3
                subst q3
                cases k with
                | false =>
                  rw [eb] at el
                  exact ⟨ρ3, h2, (f.trans f1).trans f3, r3, el⟩
                | true =>
                  rw [eb] at el
                  refine ⟨ρ3, h2, e1, r3, re2.fut f3, ?_⟩
                  cases ex : te e1 h2 with
                  | exc C fs h2 => simp only [ex] at el; cases el
                  | bad => simp only [ex] at el; cases el
                  | ok yv h3 =>
                    simp only [ex] at el
                    intro ρ4 H4 vy f4 r4 q4
                    have fA := ((f.trans f1).trans f3).trans f4
                    unfold pushD at el
                    cases eg : h3.get h1.n with
                    | none => simp only [eg] at el; cases el
                    | some ob =>
                      cases ob with
                      | lst acc =>
                        simp only [eg] at el
                        by_cases hz : acc.length < sizeLine
                        · rw [if_pos hz] at el
                          obtain ⟨a1, ys, p1, p2, p3⟩ := r4.lst eg
                          rw [atD fA] at p1; cases p1
                          obtain ⟨fu, ru⟩ := r4.lset eg (atD fA) p2 (p3.append (.cons q4 .nil))
                          exact ⟨ys, p2, by rw [← p3.length]; exact hz, ρ4, _, fA.trans fu, ru, el⟩
                        · rw [if_neg hz] at el; cases el
                      | ro xs => simp only [eg] at el; cases el
                      | kl xs => simp only [eg] at el; cases el
                      | ins C fs => simp only [eg] at el; cases el
                      | dct ks => simp only [eg] at el; cases el
                      | dt ks => simp only [eg] at el; cases el
                      | rct ks => simp only [eg] at el; cases el
                      | rdt ks => simp only [eg] at el; cases el
    · have e : i = it.n := by omega
      subst e
      rw [Nat.sub_self, lcL] at el
      split at el
      · rename_i ef
        cases el
        exact .inl ⟨q2 ef, w0 _ _ _ (fN.trans f) r (.ref (atD f))⟩
      · cases el
theorem me_lc {elt tg iter : Expr} {ifs : List Expr} {scope : Scope} {own : List (Str × Nat)} {mi : Mi} {t : Tg} {tt : Mt} {te : Mx} (hc : X.calm = true) (hN : X.N.Nodup) (hi : PI X tg iter (RdI X.K G W mi)) (ok : BlkOk X.N X.env.scope scope own) (ho : ∀ i ∈ t.slots, i ∈ own.map (·.2))
    (hg : ∀ (s : Shared) (H : Hp) (C : Addr) (cl : List (Str × Addr)) (fp : List Addr), PG (X.blk s H scope (compEnvC scope cl C X.env) fp) tg (RdG X.K G t)) (ht : ∀ (s : Shared) (H : Hp) (C : Addr) (cl : List (Str × Addr)) (fp : List Addr), PTs (X.blk s H scope (compEnvC scope cl C X.env) fp) ifs (RdT X.K G W0 tt))
    (he : ∀ (s : Shared) (H : Hp) (C : Addr) (cl : List (Str × Addr)) (fp : List Addr), PE (X.blk s H scope (compEnvC scope cl C X.env) fp) elt (RdE X.K G W0 te)) (hs : ∀ x, foldedSetIterable iter X.env x = pure x := by intro _; rfl) :
    PE X (.ListComp elt [⟨tg, iter, ifs, 0⟩] scope pos) (RdE X.K G W (eLc mi t tt te (own.map (·.2)))) := PE.imp (pe_lc hc hN hi ok hg ht he hs) fun σ H Q q => lc_rd ho q
theorem ms_setLc {i : Nat} {y : Str} {py : Pos} {elt tg iter : Expr} {ifs : List Expr} {scope : Scope} {own : List (Str × Nat)} {spos : Pos} {mi : Mi} {t : Tg} {tt : Mt} {te : Mx} (hc : X.calm = true) (hN : X.N.Nodup) (hy : X.N[i]? = some y) (hyl : X.env.scope.names.lookup y = some .local)
    (hsw : swapsWith (.ListComp elt [⟨tg, iter, ifs, 0⟩] scope pos) (some (.Name y py)) spos.line X.env = pure true) (hi : PI X tg iter (RdI X.K G W mi)) (ok : BlkOk X.N X.env.scope scope own) (ho : ∀ i ∈ t.slots, i ∈ own.map (·.2))
    (hg : ∀ (s : Shared) (H : Hp) (C : Addr) (cl : List (Str × Addr)) (fp : List Addr), PG (X.blk s H scope (compEnvC scope cl C X.env) fp) tg (RdG X.K G t)) (ht : ∀ (s : Shared) (H : Hp) (C : Addr) (cl : List (Str × Addr)) (fp : List Addr), PTs (X.blk s H scope (compEnvC scope cl C X.env) fp) ifs (RdT X.K G W0 tt))
    (he : ∀ (s : Shared) (H : Hp) (C : Addr) (cl : List (Str × Addr)) (fp : List Addr), PE (X.blk s H scope (compEnvC scope cl C X.env) fp) elt (RdE X.K G W0 te)) (hs : ∀ x, foldedSetIterable iter X.env x = pure x := by intro _; rfl) :
    PS X (.Assign [.Name y py] (.ListComp elt [⟨tg, iter, ifs, 0⟩] scope pos) spos) (RdS X.K G W (sSet i (eLc mi t tt te (own.map (·.2))))) := by
  refine PS.imp (ps_setLc hc hN hy hyl hsw hi ok hg ht he hs) fun D σ H q => ?_
  obtain ⟨ρ, h, env, r, re, w⟩ := q
  refine lc_rd (G := G) (W := W) ho ⟨ρ, h, env, r, re, WpS.bind w re fun x h1 ρ1 H1 vx f1 r1 q1 re1 w1 => w1.go r1 (re1.set q1)⟩

/-! ### methods of lists -/
def eMt (f : D → List D → MH → Option (D × MH)) (m : Mx) (ms : Ma) : Mx := fun env h => (m env h).bind fun x h1 => (ms env h1).bind fun ds h2 => ofOpt (f x ds h2)
def appendD (x : D) (ds : List D) (h : MH) : Option (D × MH) := match x, ds with
  | .ref i, [y] => (pushD h i y).map fun h' => (.non, h')
  | _, _ => none
def isLst (h : MH) (x : D) : Bool := match x with
  | .ref i => match h.get i with
    | some (.lst _) => true
    | _ => false
  | _ => false
def eApp (m : Mx) (ms : Ma) : Mx := fun env h => (m env h).bind fun x h1 => bif isLst h1 x then (ms env h1).bind fun ds h2 => ofOpt (appendD x ds h2) else .bad
section
variable {o : Expr} {es : List Expr} {apos : Pos}
theorem me_append {m : Mx} {ms : Ma} {T : TE} (hT : ∀ σ H Q, RdE X.K G W (eApp m ms) σ H Q → T σ H Q) (p : PE X (.Call (.Attribute o "append" apos) (e :: es) [] pos) T) : PE X (.Call (.Attribute o "append" apos) (e :: es) [] pos) (RdE X.K G W (eApp m ms)) := PE.imp p hT
theorem app_rd {m : Mx} {ms : Ma} {σ : L2.St} {H : Hp} {Q : VK} (q : RdE X.K G W (eApp m ms) σ H Q) : tBM X.K "list" rAppend (RdE X.K G W m) (RdA X.K G W ms) σ H Q := by
  obtain ⟨ρ, h, env, r, re, w⟩ := q
  refine ⟨ρ, h, env, r, re, Wp.bind w fun x h1 ρ1 H1 vx f1 r1 q1 w1 => ?_⟩
  cases el : isLst h1 x with
  | false => rw [el] at w1; exact w1.elim
  | true =>
    rw [el] at w1
    refine ⟨?_, ρ1, h1, env, r1, re.fut f1, Wp.bind w1 fun ds h2 ρ2 H2 vs f2 r2 q2 w2 => ?_⟩
    · unfold isLst at el
      split at el
      · rename_i i
        split at el
        · rename_i xs g1
          obtain ⟨a1, ys, p1, p2, p3⟩ := r1.lst g1
          cases q1 with
          | ref ha => rw [ha] at p1; cases p1; exact .inl ⟨rfl, _, .of p2⟩
        · cases el
      · cases el
    · obtain ⟨v, h', ea, k⟩ := w2.opt
      unfold appendD at ea
      split at ea
      · rename_i i y
        rw [Option.map_eq_some_iff] at ea
        obtain ⟨h3, ep, ee⟩ := ea
        cases ee
        unfold pushD at ep
        split at ep
        · rename_i acc g1
          split at ep
          · rename_i hz
            cases ep
            obtain ⟨a1, ys, p1, p2, p3⟩ := r2.lst g1
            have q1' := q1.fut f2
            cases q2 with
            | cons b1 b2 =>
              cases b2
              cases q1' with
              | ref ha =>
                rw [ha] at p1; cases p1
                obtain ⟨fu, ru⟩ := r2.lset g1 ha p2 (p3.append (.cons b1 .nil))
                exact ⟨_, ys, _, rfl, rfl, p2, by rw [← p3.length]; exact hz, k _ _ _ fu ru .non⟩
          · cases ep
        · cases ep
      · cases ea
end
end

/-! ### defs -/
def runD (n : Nat) (body : Ms) : Fn := fun ds h => match body (ds.map some ++ List.replicate (n - ds.length) none) h with
  | .nx _ h' => .ok .non h'
  | .rt v h' => .ok v h'
  | .exc C fs _ h' => .exc C fs h'
  | _ => .bad
theorem start_env {K : PySem.W.Frag} {G : Nat → Option Addr} {ρ : List Addr} {H : Hp} {ds : List D} {vs : List V} (N : List Str) (r : RDs K G ρ H ds vs) :
    REnv K G ρ H (ds.map some ++ List.replicate (N.length - ds.length) none) (L2.start N vs) := by
  refine ⟨by simp [L2.start, r.length], fun i d e => ?_⟩
  by_cases hi : i < ds.length
  · rw [List.getElem?_append_left (by simpa using hi), List.getElem?_map] at e
    cases ed : ds[i]? with
    | none => rw [ed] at e; cases e
    | some x =>
      rw [ed] at e
      cases e
      obtain ⟨v, h1, h2⟩ := r.get ed
      refine ⟨v, ?_, h2⟩
      unfold L2.start
      rw [List.getElem?_append_left (by rw [List.length_map, ← r.length]; exact hi), List.getElem?_map, h1]
      rfl
  · rw [List.getElem?_append_right (by simpa using hi)] at e
    have := List.mem_of_getElem? e
    rw [List.mem_replicate] at this
    cases this.2
end MM

set_option Elab.async false
set_option linter.all false
set_option maxRecDepth 100000
set_option maxHeartbeats 4000000
set_option autoImplicit false
/-! defs where it is known what is being shown (nothing); repr; the end of a law -/
namespace MM
open PySem PySem.Spec PyProof.Rows L2

/-- a def's promise, for callers around which nothing is being shown -/
structure FnG (P : Program) (w : World) (K : PySem.W.Frag) (mg : Str → Option Value) (base : Heap) (k : Nat) (f : Addr) (fd : FuncData) (ps : List Str) (sp : Sp) : Prop where
  len : ∀ vs H Q E, sp vs H Q E → vs.length = ps.length
  run : ∀ (A : Around) (outer : List Env) (s : Shared) (H : Hp) (args : Args) (us : List Value) (vs : List V) (Q : VK) (E : XK), Room k A → A.guards = some [] → Env0 P w K mg base A outer s H →
    BindsTo s fd args (ps.zip us) → Vals vs us → sp vs H Q E → codeAny (model P w) A (.call (.ref f) args) (CR (L2.CX P w) outer P w H s Q E) s
section
variable {P : Program} {w : World} {K : PySem.W.Frag} {mg : Str → Option Value} {base : Heap} {G : Nat → Option Addr}
theorem FnG.mono {j k : Nat} {f : Addr} {fd : FuncData} {ps : List Str} {sp : Sp} (F : FnG P w K mg base j f fd ps sp) (h : j ≤ k) : FnG P w K mg base k f fd ps sp :=
  ⟨F.len, fun A outer s H args us vs Q E hr => F.run A outer s H args us vs Q E (hr.mono h)⟩
theorem defG {x qual : Str} {st : Stmt} {f : Addr} {fd : FuncData} {N ps : List Str} {k : Nat} {sp : Sp} (F : Fun K x qual st f fd) (S : FnScope N ps (defScope st)) (len : ∀ vs H Q E, sp vs H Q E → vs.length = ps.length)
    (hbody : ∀ (cdv : Value) (A : Around) (outer : List Env) (s : Shared) (H : Hp) (vs : List V) (Q : VK) (E : XK), Room k (A.deeper (envOfC qual (defScope st) s.heap.objs.size f cdv)) → A.guards = some [] → sp vs H Q E →
      ∃ t, PSs (cxOf (L2.CX P w) P w K mg base N qual (defScope st) f cdv A outer s H E) (defBody st) t ∧ t { nx := fun _ H' => Q .non H', rt := Q } (start N vs) H) : FnG P w K mg base (k + 1) f fd ps sp := by
  obtain ⟨oc, od, kV, doc, pm, an, cdv, ct, osl, rfl, lk, hcd⟩ := F.ex
  refine ⟨len, fun A outer s H args us vs Q E hr hgd e0 hb r hsp => ?_⟩
  have hl := len _ _ _ _ hsp
  have old : ∀ b o, base.get? b = some o → s.heap.get? b = some o := fun b o e => (e0.bs b o e).1
  have KX : K.In s.heap := e0.mod.kin.keeps old
  have names : ∀ y ∈ ps.zip us, (defScope st).names.lookup y.1 = some .local ∨ ((defScope st).names.lookup y.1 = some .cell ∧ ((cellsFrom (s.heap.objs.size + 1) (defScope st).names []).lookup y.1).isSome = true) := by
    rintro ⟨n, v⟩ hy
    exact (S.par n (List.of_mem_zip hy).1).imp id fun q => ⟨q, PySem.W.cellsFrom_some _ _ _ (.inl q)⟩
  refine codeAny_call_function hr.depth (KX _ _ lk) rfl S.co S.gen rfl (PySem.W.codeRec_of KX hcd) (hb _ _ _ _ ?_)
  refine wpAny_newFunctionEnv_cells S.kind names fun env he s1 x => ?_
  subst he
  refine ⟨(e0.mod.nolimit.keeps old).keeps x.toInCall.keep, codeAny_func ?_⟩
  obtain ⟨t, ht, hq⟩ := hbody cdv A outer s H vs Q E (hr.deeper _) hgd hsp
  have I := inv_start (CX := L2.CX P w) (w := w) (E := E) (f := f) (cd := cdv) S hr.hd e0 hl r x
  refine wpAny_mono (ht.run [] s1 (start N vs) H _ I hq) (fun fl s' hs => ?_) fun e s' hs => hs
  cases fl with
  | ret u => obtain ⟨v, σ', H', J, rv, q⟩ := hs; exact ⟨v, H', J.os, J.bare, J.base, J.hok, rv, q⟩
  | next => obtain ⟨σ', H', J, q⟩ := hs; exact ⟨.non, H', J.os, J.bare, J.base, J.hok, rfl, q⟩
  | brk => obtain ⟨_, _, _, q⟩ := hs; exact q.elim
  | cont => obtain ⟨_, _, _, q⟩ := hs; exact q.elim
theorem defM {x qual : Str} {st : Stmt} {f : Addr} {fd : FuncData} {N ps : List Str} {k : Nat} {body : Ms} (F : Fun K x qual st f fd) (S : FnScope N ps (defScope st)) (n m : Nat) (hn : N.length = n) (hm : ps.length = m)
    (hb : ∀ (cdv : Value) (A : Around) (outer : List Env) (s : Shared) (H : Hp) (E : XK), Room k (A.deeper (envOfC qual (defScope st) s.heap.objs.size f cdv)) → A.guards = some [] →
      PSs (cxOf (L2.CX P w) P w K mg base N qual (defScope st) f cdv A outer s H E) (defBody st) (RdS K G (fun c d _ H => E c d H) body)) : FnG P w K mg base (k + 1) f fd ps (spM K G m (runD n body)) := by
  refine defG F S (fun vs H Q E q => ?_) fun cdv A outer s H vs Q E hr hgd q => ⟨_, hb cdv A outer s H E hr hgd, ?_⟩
  · obtain ⟨ρ, h, ds, r, rd, hl, _⟩ := q
    rw [← rd.length, hl, hm]
  · obtain ⟨ρ, h, ds, r, rd, hl, w⟩ := q
    refine ⟨ρ, h, ds.map some ++ List.replicate (N.length - ds.length) none, r, start_env N rd, ?_⟩
    rw [hn]
    unfold runD at w
    cases eb : body (ds.map some ++ List.replicate (n - ds.length) none) h with
    | nx e h' => rw [eb] at w; exact fun ρ1 H1 σ1 f1 r1 re1 => w ρ1 H1 .non f1 r1 .non
    | rt v h' => rw [eb] at w; exact fun ρ1 H1 v1 f1 r1 re1 => w ρ1 H1 v1 f1 r1 re1
    | exc C fs e h' => rw [eb] at w; exact fun ρ1 H1 σ1 c d eg f1 r1 re1 hx => w ρ1 H1 c d eg f1 r1 hx
    | bk e h' => rw [eb] at w; exact w.elim
    | ct e h' => rw [eb] at w; exact w.elim
    | bad => rw [eb] at w; exact w.elim
/-- the promise of the same text with another name for what it yields -/
theorem FnG.to {k n : Nat} {f : Addr} {fd : FuncData} {ps : List Str} {fm fm' : Fn} (F : FnG P w K mg base k f fd ps (spM K G n fm)) (e : fm' = fm) : FnG P w K mg base k f fd ps (spM K G n fm') := by rw [e]; exact F
end

section
variable {X : Cx} {G : Nat → Option Addr} {W : WX} {k : Nat} {f : Addr} {fd : FuncData} {ps : List Str} {x : Str} {p pos : Pos} {fm : Fn} {dvs : List V} {dds : List D} {ds : List Value} {n : Nat} {e : Expr} {es : List Expr}
theorem run_G {sp : Sp} {E : XK} {pins : List (Addr × Obj)} {σ : L2.St} {H : Hp} {s : Shared} {Q : VK} {us : List Value} {vs : List V} (F : FnG X.prog X.w X.K X.mg X.base k f fd ps sp) (hgd : X.A.guards = some []) (hr : Room k X.A) (hb : Binds X.K fd ps ds) (hd : Vals dvs ds)
    (hx : PassesAt (L2.CX X.prog X.w) X σ E) (I : Inv X pins σ H s) (r : Vals vs us) (h : sp (vs ++ dvs) H Q E) : wpAny (model X.prog X.w) X.A (call (.ref f) us) (EP X pins σ Q) X.xe s := by
  have all : Vals (vs ++ dvs) (us ++ ds) := r.append hd
  have hl : (us ++ ds).length = ps.length := all.length.symm.trans (F.len _ _ _ _ h)
  refine wpAny_call (codeAny_mono (F.run X.A X.stack s H ⟨us, []⟩ _ _ Q E hr hgd I.env0 (hb s us I.kIn hl) all h) fun z s' hq => ?_)
  rcases z with e | fl
  · exact hx pins H s e s' I hq
  · cases fl with
    | ret u => exact I.after hq
    | _ => exact hq.elim
theorem pe_G {sp : Sp} {E : L2.St → XK} {t : TA} (F : FnG X.prog X.w X.K X.mg X.base k f fd ps sp) (hgd : X.A.guards = some []) (hr : Room k X.A) (hg : Gl X x) (hm : X.mg x = some (.ref f)) (hk : PySem.W.keepIn X.K (.ref f) = true) (hb : Binds X.K fd ps ds) (hd : Vals dvs ds)
    (hx : ∀ σ, PassesAt (L2.CX X.prog X.w) X σ (E σ)) (ha : PA X (e :: es) t) (hdb : (x == ("__debug__" : Str)) = false) (he : starEach (e :: es) X.env = (false, eval e X.env) :: starEach es X.env) (hpl : (backTo pos (starEach es X.env)).any (·.1) = false) :
    PE X (.Call (.Name x p) (e :: es) [] pos) (tCallSD sp dvs E t) := by
  refine ⟨fun pins s σ H Q I h => wpAny_Call_Name_kw (ld_glob I hg hm ?_ hdb)⟩
  exact PySem.W.callWith_K (h₀ := X.base) I.ok.mod.kin hk (thn (ha.run pos pins s σ H _ I h) fun us s1 ⟨vs, H1, I1, r, q⟩ => ⟨I1.kIn, run_G F hgd hr hb hd (hx σ) I1 r q⟩) he hpl
theorem pe_G0 {sp : Sp} {E : L2.St → XK} (F : FnG X.prog X.w X.K X.mg X.base k f fd ps sp) (hgd : X.A.guards = some []) (hr : Room k X.A) (hg : Gl X x) (hm : X.mg x = some (.ref f)) (hk : PySem.W.keepIn X.K (.ref f) = true) (hb : Binds X.K fd ps ds) (hd : Vals dvs ds)
    (hx : ∀ σ, PassesAt (L2.CX X.prog X.w) X σ (E σ)) (hdb : (x == ("__debug__" : Str)) = false) : PE X (.Call (.Name x p) [] [] pos) (tCallSD sp dvs E tNil) := by
  refine ⟨fun pins s σ H Q I h => wpAny_Call_Name_kw (ld_glob I hg hm ?_ hdb)⟩
  exact PySem.W.callWith_K0 I.kIn hk (run_G (us := []) F hgd hr hb hd (hx σ) I .nil h)
theorem call_rd {ms : Ma} {l : Nat} (hD : ∀ ρ H, RDs X.K G ρ H dds dvs) (hn : l + dds.length = n) (hl : ∀ env h xs h1, ms env h = .ok xs h1 → xs.length = l) {σ : L2.St} {H : Hp} {Q : VK} (q : RdE X.K G W (eCall (dflt fm dds) ms) σ H Q) :
    tCallSD (spM X.K G n fm) dvs (WE W) (RdA X.K G W ms) σ H Q := by
  obtain ⟨ρ, h, env, r, re, w⟩ := q
  refine ⟨ρ, h, env, r, re, ?_⟩
  unfold eCall at w
  cases em : ms env h with
  | bad => rw [em] at w; exact w
  | exc C fs h1 => rw [em] at w; exact w
  | ok xs h1 =>
    rw [em] at w
    intro ρ1 H1 vs f1 r1 q1
    exact ⟨ρ1, h1, xs ++ dds, r1, q1.append (hD _ _), by rw [List.length_append, hl _ _ _ _ em]; exact hn, Wp.fut f1 w⟩
/-- f(a, ..), the defaults dds behind -/
theorem me_callD {ms : Ma} (F : FnG X.prog X.w X.K X.mg X.base k f fd ps (spM X.K G n fm)) (hgd : X.A.guards = some []) (tk : Takes X W) (hr : Room k X.A) (hg : Gl X x) (hm : X.mg x = some (.ref f)) (hk : PySem.W.keepIn X.K (.ref f) = true) (hb : Binds X.K fd ps ds) (hd : Vals dvs ds)
    (hD : ∀ ρ H, RDs X.K G ρ H dds dvs) (hn : (e :: es).length + dds.length = n) (hl : ∀ env h xs h1, ms env h = .ok xs h1 → xs.length = (e :: es).length)
    (ha : PA X (e :: es) (RdA X.K G W ms)) (hdb : (x == ("__debug__" : Str)) = false := by decide) (he : starEach (e :: es) X.env = (false, eval e X.env) :: starEach es X.env := by rfl) (hpl : (backTo pos (starEach es X.env)).any (·.1) = false := by rfl) :
    PE X (.Call (.Name x p) (e :: es) [] pos) (RdE X.K G W (eCall (dflt fm dds) ms)) :=
  PE.imp (pe_G (E := WE W) F hgd hr hg hm hk hb hd (fun σ => passAt tk σ) ha hdb he hpl) fun σ H Q q => call_rd hD hn hl q
/-- without defaults -/
def eF (f : Fn) (ms : Ma) : Mx := fun env h => (ms env h).bind fun ds h1 => f ds h1
theorem eF_eq (f : Fn) (ms : Ma) : eF f ms = eCall (dflt f []) ms := by
  funext env h
  unfold eF eCall dflt
  cases ms env h with
  | ok a h1 => simp
  | exc C fs h1 => rfl
  | bad => rfl
theorem me_call {ms : Ma} (F : FnG X.prog X.w X.K X.mg X.base k f fd ps (spM X.K G n fm)) (hgd : X.A.guards = some []) (tk : Takes X W) (hr : Room k X.A) (hg : Gl X x) (hm : X.mg x = some (.ref f)) (hk : PySem.W.keepIn X.K (.ref f) = true) (hb : Binds X.K fd ps [])
    (hn : (e :: es).length = n) (hl : ∀ env h xs h1, ms env h = .ok xs h1 → xs.length = (e :: es).length)
    (ha : PA X (e :: es) (RdA X.K G W ms)) (hdb : (x == ("__debug__" : Str)) = false := by decide) (he : starEach (e :: es) X.env = (false, eval e X.env) :: starEach es X.env := by rfl) (hpl : (backTo pos (starEach es X.env)).any (·.1) = false := by rfl) :
    PE X (.Call (.Name x p) (e :: es) [] pos) (RdE X.K G W (eF fm ms)) := by
  rw [eF_eq]
  exact me_callD F hgd tk hr hg hm hk hb .nil (fun _ _ => .nil) hn hl ha hdb he hpl
theorem me_call0 (F : FnG X.prog X.w X.K X.mg X.base k f fd ps (spM X.K G 0 fm)) (hgd : X.A.guards = some []) (tk : Takes X W) (hr : Room k X.A) (hg : Gl X x) (hm : X.mg x = some (.ref f)) (hk : PySem.W.keepIn X.K (.ref f) = true) (hb : Binds X.K fd ps [])
    (hdb : (x == ("__debug__" : Str)) = false := by decide) : PE X (.Call (.Name x p) [] [] pos) (RdE X.K G W (eF fm aNil)) := by
  rw [eF_eq]
  refine PE.imp (pe_G0 (E := WE W) F hgd hr hg hm hk hb .nil (fun σ => passAt tk σ) hdb) fun σ H Q q => ?_
  obtain ⟨ρ, h, env, r, re, w⟩ := q
  exact ⟨ρ, h, [], r, .nil, rfl, w⟩

/-! ### repr -/

mutual
def repW : PyData → Nat
  | .none => 4
  | .bool _ => 5
  | .int i => i.natAbs.log2 + 3
  | .str x => (reprText x).length
  | .list xs => repWs xs + 2
  | .tuple xs => repWs xs + 3
  | .dict _ => 16777217
def repWs : List PyData → Nat
  | [] => 0
  | x :: xs => repW x + 2 + repWs xs
end
theorem textFrom_le : ∀ (ts : List Str) (k : Nat) (acc : Str), (textFrom k acc ts).length ≤ acc.length + piled ts
  | [], _, acc => Nat.le_add_right _ _
  | t :: ts, k, acc => by
    have ih := textFrom_le ts (k + 1) (acc ++ (if k > 0 then ", " else "" : String) ++ t)
    have e : (acc ++ (if k > 0 then ", " else "" : String) ++ t).length ≤ acc.length + 2 + t.length := by
      rw [strLen_append, strLen_append]
      have : (Str.ofString (if k > 0 then ", " else "" : String)).length ≤ 2 := by split <;> decide
      omega
    show (textFrom (k + 1) (acc ++ (if k > 0 then ", " else "" : String) ++ t) ts).length ≤ _
    have p : piled (t :: ts) = t.length + 2 + piled ts := by simp [piled]
    omega
mutual
theorem shown_le : ∀ d : PyData, d.canLay0 = true → d.shown.length ≤ repW d
  | .none, _ => by simp only [PyData.shown, repW]; decide
  | .bool b, _ => by simp only [PyData.shown, repW]; cases b <;> decide
  | .int i, _ => by
    simp only [PyData.shown, repW]
    have := int_text_length_le (a := i) (k := i.natAbs.log2 + 1) (by omega) (by omega)
    rw [PySem.ofString_length]
    omega
  | .str x, _ => by simp only [PyData.shown, repW]; exact Nat.le_refl _
  | .list xs, h => by
    simp only [PyData.shown, repW, listText]
    rw [strLen_append]
    have h1 := textFrom_le (PyData.shownAll xs) 0 "["
    have h2 := shown_les xs (by simpa [PyData.canLay0] using h)
    have h3 : (Str.ofString "[").length = 1 := by decide
    have h4 : (Str.ofString "]").length = 1 := by decide
    omega
  | .tuple xs, h => by
    simp only [PyData.shown, repW, tupleText]
    rw [strLen_append, strLen_append]
    have h2 := shown_les xs (by simpa [PyData.canLay0] using h)
    have h3 : (Str.ofString "(").length = 1 := by decide
    have h4 : (Str.ofString (if (PyData.shownAll xs).length == 1 then ",)" else ")")).length ≤ 2 := by split <;> decide
    have h5 : (Str.join ", " (PyData.shownAll xs)).length ≤ piled (PyData.shownAll xs) := by
      by_cases e : PyData.shownAll xs = []
      · rw [e]; decide
      · have := join_length_add _ e
        omega
    omega
  | .dict _, h => by simp [PyData.canLay0] at h
theorem shown_les : ∀ xs : List PyData, PyData.canLayAll0 xs = true → piled (PyData.shownAll xs) ≤ repWs xs
  | [], _ => by simp [PyData.shownAll, piled, repWs]
  | x :: xs, h => by
    have h' : x.canLay0 = true ∧ PyData.canLayAll0 xs = true := by simpa [PyData.canLayAll0] using h
    have h1 := shown_le x h'.1
    have h2 := shown_les xs h'.2
    simp only [PyData.shownAll, repWs]
    have p : piled (x.shown :: PyData.shownAll xs) = x.shown.length + 2 + piled (PyData.shownAll xs) := by simp [piled]
    omega
end
def repOk (d : PyData) : Bool := SeqAt.shaped d && d.showable && decide (repW d ≤ sizeLine)
def reprF (ds : List D) (h : MH) : Option (D × MH) := match ds with
  | [x] => match snap h deep x with
    | some p => if repOk p then some (.rep p, h) else none
    | none => none
  | _ => none
theorem ok_repr (hgd : X.A.guards = some []) (hu : X.A.units + 66 < cLine) : CallOK X G (.builtin "repr") reprF := by
  intro pins s σ H vs us Q I r q
  obtain ⟨ρ, h, ds, w, h', R, rs, e, k⟩ := q
  unfold reprF at e
  split at e
  · split at e
    · rename_i x p ep
      split at e
      · rename_i hc
        cases e
        unfold repOk at hc
        rw [Bool.and_eq_true, Bool.and_eq_true] at hc
        obtain ⟨⟨c1, c2⟩, c3⟩ := hc
        have c3' := of_decide_eq_true c3
        unfold SeqAt.shaped at c1
        rw [Bool.and_eq_true] at c1
        have c4 := of_decide_eq_true c1.2
        have c3 : p.shown.length ≤ sizeLine := Nat.le_trans (shown_le p c1.1) c3'
        cases rs with
        | cons r1 r2 =>
          cases r2
          obtain ⟨u, rfl, ru⟩ := vals1 r
          have dp := r1.dp R ep
          have fin := k ρ H _ .refl R (.rep p)
          cases dp with
          | non => cases ru; exact PySem.P.repr_of_none ⟨.str _, H, I.tok _, ⟨_, rfl⟩, fin⟩
          | bl b => cases ru; exact PySem.P.repr_of_bool ⟨.str _, H, I.tok _, ⟨_, rfl⟩, fin⟩
          | int i => obtain ⟨t, rfl⟩ := ru; exact PySem.P.repr_of_int (of_decide_eq_true (by simpa [PyData.showable] using c2)) ⟨.str _, H, I.tok _, ⟨_, rfl⟩, fin⟩
          | str y => obtain ⟨t, rfl⟩ := ru; exact PySem.P.repr_of_str ⟨.str _, H, I.tok _, ⟨_, rfl⟩, fin⟩ (hsz := by simpa [PyData.shown] using c3)
          | lst a b =>
            obtain ⟨as, rr⟩ := Dp.reads I _ _ u (.lst a b) ru
            cases ru
            exact PySem.repr_of_reads' rr c2 (PySem.PyData.noDict_hsm (PyData.hasDict_of_canLay _ c1.1)) hgd (by omega) (fun _ _ e => e) (fun h' u' tk hk => ⟨.str _, H, I.kept (t' := tk) hk, ⟨_, rfl⟩, fin⟩) c3
          | tup a b =>
            obtain ⟨as, rr⟩ := Dp.reads I _ _ u (.tup a b) ru
            cases ru
            exact PySem.repr_of_reads' rr c2 (PySem.PyData.noDict_hsm (PyData.hasDict_of_canLay _ c1.1)) hgd (by omega) (fun _ _ e => e) (fun h' u' tk hk => ⟨.str _, H, I.kept (t' := tk) hk, ⟨_, rfl⟩, fin⟩) c3
      · cases e
    · cases e
  · cases e
end

/-! ### the end of a law -/
theorem ints_rd {K : PySem.W.Frag} {G : Nat → Option Addr} {ρ : List Addr} {H : Hp} : ∀ ns : List Int, RDs K G ρ H (ns.map D.int) (ns.map V.int)
  | [] => .nil
  | n :: ns => .cons (.int n) (ints_rd ns)
/-- what the script is at the start -/
def scr (b : Bool) (ns : List Int) : MH := MH.nil.add (if b = true then .kl (ns.map D.int) else .ro (ns.map D.int))
theorem endG {P : Program} {w : World} {K : PySem.W.Frag} {mg mb : Str → Option Value} {G : Nat → Option Addr} {k : Nat} {fa a : Addr} {fd : FuncData} {x : Str} {fm : Fn} {s₁ : Shared} {vs : List Value} {ns : List Int}
    (KX : K.In s₁.heap) (hns : s₁.heap.Ns mainGlobals mg) (hb : s₁.heap.Ns builtinsNs mb) (hbb : ∀ x : Str, x ≠ "__name__" → mb x = bootBuiltins x) (hlim : s₁.heap.NoLimit) (hg : s₁.gens = #[])
    (ha : s₁.heap.get? a = some { cls := .type "list", data := .seq vs.toArray }) (hi : IntsAre vs ns) (hl : ns.length ≤ sizeLine) (hr : Room k callerA)
    (F : ∀ base : Heap, K.In base → base.Ns mainGlobals mg → FnG P w K mg base k fa fd [x] (spM K G 1 fm)) (hbind : ∀ (s : Shared) (u : Value), BindsTo s fd ⟨[u], []⟩ [(x, u)])
    (hm : ∀ b, ∃ h', fm [.ref 0] (scr b ns) = .ok (.bl true) h') :
    codeAny (model P w) callerA (.call (.ref fa) ⟨[.ref a], []⟩) (fun r s' => r = .ok (.ret (.bool true)) ∧ OldK s₁.heap s'.heap ∧ s'.os = s₁.os ∧ AllBare s'.gens) s₁ := by
  have rv := vals_ints hi
  have lenV := hi.length
  -- the two ways that the script may stand: an object of the written part, or one that is known to the object
  have core : ∀ (b : Bool) (H : Hp), (∀ c, c ≠ a → H c = none) → (∀ u, H a = some u → K.lookup a = none ∧ u = .frz { cls := .type "list", data := .seq vs.toArray } (.lst (ns.map V.int))) → HOk P w H s₁.heap →
      RO K G [a] H a (if b = true then .kl (ns.map D.int) else .ro (ns.map D.int)) →
      codeAny (model P w) callerA (.call (.ref fa) ⟨[.ref a], []⟩) (fun r s' => r = .ok (.ret (.bool true)) ∧ OldK s₁.heap s'.heap ∧ s'.os = s₁.os ∧ AllBare s'.gens) s₁ := by
    intro b H hA hS hok hro
    have stays : ∀ {c : Addr} {o : Obj}, s₁.heap.get? c = some o → (c = a → H a = none) → (hidT s₁.heap H).get? c = some o := fun {c o} e n => hidT_get e (by
      by_cases hc : c = a
      · rw [hc]; exact n hc
      · exact hA c hc)
    have nsK : ∀ {c : Addr} {m : Str → Option Value}, s₁.heap.Ns c m → (hidT s₁.heap H).Ns c m := fun {c m} ⟨o, es, ep, e, d, z⟩ => ⟨o, es, ep, stays e (fun hc => by
      rw [hc, ha] at e
      cases e
      have d' : Data.seq vs.toArray _ = Data.dict es ep := d
      cases d'), d, z⟩
    have hKb : K.In (hidT s₁.heap H) := fun c o e => stays (KX c o e) fun hc => by
      subst hc
      cases q : H c with
      | none => rfl
      | some u => rw [(hS u q).1] at e; cases e
    have hM : Mod K mg (hidT s₁.heap H) := ⟨hKb, nsK hns, ⟨mb, nsK hb, hbb⟩, let ⟨mc, h1, h2⟩ := hlim; ⟨mc, nsK h1, h2⟩⟩
    have e0 : Env0 P w K mg (hidT s₁.heap H) callerA [] s₁ H := ⟨rfl, hM, fun _ _ e => of_hidT e, Nat.le_of_eq (hidT_size _ _), trivial, fun c hc => absurd (show c ∈ ([] : List Addr) from hc) (by simp), hok, .of_eq hg⟩
    have one : ∀ (i : Nat) (o : O), (scr b ns).get i = some o → i = 0 ∧ o = (if b = true then .kl (ns.map D.int) else .ro (ns.map D.int)) := fun i o e => by
      unfold scr at e
      rw [MH.get_add] at e
      by_cases hi : i = MH.nil.n
      · rw [if_pos hi] at e; cases e; exact ⟨hi, rfl⟩
      · rw [if_neg hi, MH.get_nil] at e; cases e
    have zero : ∀ (i : Nat) (c : Addr), [a][i]? = some c → i = 0 ∧ c = a := fun i c e => by
      cases i with
      | zero => cases e; exact ⟨rfl, rfl⟩
      | succ i => cases e
    have rel : Rel K G [a] (scr b ns) H := by
      refine ⟨rfl, fun i o e => ?_, fun i c e => ?_, fun i j c o u g1 g2 _ _ e1 e2 => ?_⟩
      · obtain ⟨rfl, rfl⟩ := one i o e
        exact ⟨a, rfl, hro⟩
      · obtain ⟨rfl, rfl⟩ := zero i c e
        exact ⟨_, MH.get_add_same _ _⟩
      · rw [(zero i c e1).1, (zero j c e2).1]
    obtain ⟨h', em⟩ := hm b
    have hsp : spM K G 1 fm [.ref a] H (fun v H' => v = .bl true) fun _ _ _ => False := ⟨[a], scr b ns, [.ref 0], rel, .cons (.ref rfl) .nil, rfl, by
      rw [em]
      intro ρ' H' v _ _ q
      cases q; rfl⟩
    refine codeAny_mono ((F _ hKb (nsK hns)).run callerA [] s₁ H ⟨[.ref a], []⟩ [.ref a] [.ref a] _ _ hr rfl e0 (hbind s₁ (.ref a)) (.cons rfl .nil) hsp) fun r s' h => ?_
    rcases r with e | fl
    · obtain ⟨_, _, _, _, _, _, _, _, _, _, _, _, z⟩ := h
      exact z.elim
    · cases fl with
      | ret u =>
        obtain ⟨v, H', os, bare, un, hok', r', q⟩ := h
        have q' : v = .bl true := q
        subst q'
        obtain rfl : u = Value.bool true := r'
        refine ⟨rfl, OldK.of_keep fun c o e => ?_, os, bare⟩
        cases qc : H c with
        | none => exact un.keep c o e qc (fun z => nomatch z) (by simp)
        | some u =>
          have hc : c = a := by
            by_cases hc : c = a
            · exact hc
            · rw [hA c hc] at qc; cases qc
          subst hc
          obtain ⟨_, rfl⟩ := hS u qc
          obtain ⟨e1, _⟩ := hok c _ qc
          obtain ⟨e2, _⟩ := hok' c _ (un.frzs c _ _ qc)
          rw [e] at e1; cases e1
          exact e2
      | _ => exact h.elim
  cases hk : K.lookup a with
  | some o =>
    have e := KX a o hk
    rw [ha] at e
    cases e
    have sq : ∀ H, SqL K H a (ns.map V.int) := fun H => .inr ⟨_, vs.toArray, _, hk, rfl, rfl, rfl, by rw [List.size_toArray, lenV]; exact hl, by simpa using rv⟩
    exact core true (fun _ => none) (fun _ _ => rfl) (fun u z => nomatch z) (fun b u z => nomatch z) ⟨_, sq, ints_rd ns⟩
  | none =>
    refine core false (fun b => if b = a then some (.frz { cls := .type "list", data := .seq vs.toArray } (.lst (ns.map V.int))) else none) (fun c hc => if_neg hc) (fun u z => ?_) (fun c u z => ?_) ⟨_, _, if_pos rfl, ints_rd ns⟩
    · have z' := (if_pos rfl).symm.trans z
      cases z'
      exact ⟨hk, rfl⟩
    · by_cases hc : c = a
      · have z' := (if_pos hc).symm.trans z
        cases z'
        subst hc
        exact ⟨ha, by rw [List.length_map]; exact hl, vs, _, rv, ha⟩
      · have z' := (if_neg hc).symm.trans z
        cases z'
/-- the goal that the head leaves, from the law's own function here -/
theorem walkG {l : PySem.W.OpenLaw} {n k : Nat} {q : Program} {loose : List Str} {XP : (Str → Option Value) → Heap → Prop} {YP : World → Heap → Prop} {d : DefRec} {K : Params → PySem.W.Frag} {fm : Fn} {x : Str}
    (hn : l.most = some n) (hn2 : n ≤ sizeLine) (hdf : d.params.defaults = []) (hr : Room k callerA)
    (hY : ∀ (w : World) (h : Heap), YP w h → (K w.params).In h)
    (F : ∀ (w : World) (mg : Str → Option Value) (fa : Addr) (h : Heap), (K w.params).In h → h.Ns mainGlobals mg → mg d.name = some (.ref fa) →
      ∃ (fd : FuncData) (G : Nat → Option Addr), (∀ (s : Shared) (u : Value), BindsTo s fd ⟨[u], []⟩ [(x, u)]) ∧
        ∀ base : Heap, (K w.params).In base → base.Ns mainGlobals mg → FnG l.prog w (K w.params) mg base k fa fd [x] (spM (K w.params) G 1 fm))
    (hm : ∀ (b : Bool) (ns : List Int), ns.length ≤ n → ∃ h', fm [.ref 0] (scr b ns) = .ok (.bl true) h') :
    PySem.W.WalkO q loose XP YP l.row.toRowW d [] (fun f vs => PySem.call f vs) := by
  refine Att.attach_call hn hdf fun w s₀ s₁ mg mb fa o pm cd doc a vs ns G Y ho hd hcd hmg hobj hints hlen hg => ?_
  have KX := hY w _ Y
  obtain ⟨fd, GG, hb, hF⟩ := F w mg fa _ KX G.T.g hmg
  exact endG KX G.T.g G.T.b G.T.builtins G.T.nolimit hg hobj hints (Nat.le_trans hlen hn2) hr hF hb fun b => hm b ns hlen
end MM

set_option Elab.async false
set_option linter.all false
set_option maxRecDepth 100000
set_option maxHeartbeats 4000000
set_option autoImplicit false
/-! t[::-1], sorted -/
namespace MM
open PySem PySem.Spec PyProof.Rows L2

section
variable {prog : Program} {w : World} {A : Around} {E : Value → Shared → Prop} {s : Shared}
theorem back_adjust (n : Nat) : Builtin.Slice.sliceAdjust none none (-1) (n : Int) = ((n : Int) - 1, -1) := by
  unfold Builtin.Slice.sliceAdjust
  rfl
theorem back_places (n : Nat) : Builtin.Slice.slicePlaces ((n : Int) - 1) (-1) (-1) = n := by
  unfold Builtin.Slice.slicePlaces
  have h1 : ¬ ((-1 : Int) > 0) := by omega
  simp only [h1, if_false]
  by_cases h : n = 0
  · subst h; rfl
  · have h2 : (-1 : Int) < (n : Int) - 1 := by omega
    simp [h2]
theorem back_applied {sl : Addr} {vk : Value} {n : Nat} {Q : Int × Int × Nat → Shared → Prop} (hs : s.heap.IsSliceOf sl .none .none vk) (pk : IsPart vk (some (-1))) (h : Q ((n : Int) - 1, -1, n) s) :
    wpAny (model prog w) A (Builtin.Slice.sliceApplied (.ref sl) (pure (n : Int))) Q E s := by
  obtain ⟨os, hos, hcs, hds⟩ := id hs
  cases pk with
  | int _ t =>
    unfold Builtin.Slice.sliceApplied Builtin.Slice.sliceFields
    refine wpAny_bind (wpAny_bind (wpAny_field hos hds (x := .none) rfl (wpAny_bind (wpAny_field hos hds (x := .none) rfl (wpAny_bind (wpAny_field hos hds (x := .int (-1) t) rfl (wpAny_pure ?_)))))))
    refine wpAny_bind (slicePart_int ?_)
    show wpAny _ _ (if ((-1 : Int) == 0) = true then _ else _) _ _ s
    rw [if_neg (by decide)]
    refine wpAny_bind (slicePart_none (wpAny_bind (slicePart_none (wpAny_bind (wpAny_pure ?_)))))
    show wpAny _ _ (match Builtin.Slice.sliceAdjust none none (-1) (n : Int) with | (lo, hi) => pure (lo, (-1 : Int), Builtin.Slice.slicePlaces lo hi (-1))) _ _ s
    rw [back_adjust n]
    show wpAny _ _ (pure ((n : Int) - 1, (-1 : Int), Builtin.Slice.slicePlaces ((n : Int) - 1) (-1) (-1))) _ _ s
    rw [back_places]
    exact wpAny_pure h
theorem back_pick (xs : List Value) : ((List.range xs.length).filterMap fun (m : Nat) => xs.toArray[(((xs.length : Int) - 1) + (m : Int) * (-1)).toNat]?) = xs.reverse := by
  have e : ∀ m ∈ List.range xs.length, (fun (m : Nat) => xs.toArray[(((xs.length : Int) - 1) + (m : Int) * (-1)).toNat]?) m = (fun m => xs.reverse[m]?) m := by
    intro m hm
    have hm := List.mem_range.mp hm
    have i : (((xs.length : Int) - 1) + (m : Int) * (-1)).toNat = xs.length - 1 - m := by omega
    show xs.toArray[_]? = xs.reverse[m]?
    rw [i, List.getElem?_reverse hm]
    simp
  have cong : ∀ (l : List Nat), (∀ m ∈ l, (fun (m : Nat) => xs.toArray[(((xs.length : Int) - 1) + (m : Int) * (-1)).toNat]?) m = (fun m => xs.reverse[m]?) m) → l.filterMap (fun (m : Nat) => xs.toArray[(((xs.length : Int) - 1) + (m : Int) * (-1)).toNat]?) = l.filterMap (fun m => xs.reverse[m]?) := by
    intro l
    induction l with
    | nil => intro _; rfl
    | cons a l ih =>
      intro hm
      rw [List.filterMap_cons, List.filterMap_cons, ih fun m q => hm m (List.mem_cons_of_mem _ q)]
      have := hm a List.mem_cons_self
      simp only at this
      rw [this]
  rw [cong _ e]
  have : ∀ ys : List Value, (List.range ys.length).filterMap (fun m => ys[m]?) = ys := by
    intro ys
    induction ys with
    | nil => rfl
    | cons y ys ih =>
      rw [List.length_cons, List.range_succ_eq_map, List.filterMap_cons]
      simp only [List.getElem?_cons_zero]
      rw [List.filterMap_map]
      have e2 : ((fun m => (y :: ys)[m]?) ∘ Nat.succ) = fun m => ys[m]? := by funext m; simp
      rw [e2, ih]
  have l := this xs.reverse
  rw [List.length_reverse] at l
  exact l
theorem getItem_tuple_back {t sl : Addr} {its : List Value} {vk : Value} {Q : Value → Shared → Prop} (ht : IsTup s.heap t its.toArray) (hs : s.heap.IsSliceOf sl .none .none vk) (pk : IsPart vk (some (-1)))
    (h : Q (.ref s.heap.objs.size) { s with heap := s.heap.push { cls := .type "tuple", data := .seq its.reverse.toArray } }) (hsz : its.length ≤ sizeLine) : wpAny (model prog w) A (getItem (.ref t) (.ref sl)) Q E s := by
  have fit : sizeOk (.seq its.reverse.toArray) := by
    show its.reverse.toArray.size ≤ sizeLine
    rw [List.size_toArray, List.length_reverse]
    exact hsz
  obtain ⟨os, hos, hcs, hds⟩ := id hs
  have hTs : s.TypeIs (.ref sl) "slice" := ⟨os, hos, hcs⟩
  unfold getItem
  try with_reducible refine wpAny_holding ?_
  first | refine wpAny_bind (wpAny_pure ?_) | skip
  refine wpAny_bind (wpAny_sequenceKey ht.typeIs (by decide) ?_)
  refine wpAny_bind (wpAny_callSpecial?_slot (name := Str.ofString "__getitem__") ht.typeIs PyProof.Rows.slot_tuple_getitem
    (wpAny_call_entry PyProof.Rows.slot_tuple_getitem ht.typeIs entry_tuple_getitem ?_ (args_tuple_getitem _ _)))
  show wpAny _ _ (Builtin.Tuple.tupleItemsOf (.ref t) >>= _) _ _ s
  refine wpAny_bind (tupleItemsOf_ ht ?_)
  refine wpAny_bind (wpAny_typeOf hTs ?_)
  rw [if_pos (by decide)]
  refine wpAny_bind (back_applied (n := its.toArray.size) hs pk ?_)
  have hno : ¬ (((((its.toArray.size : Nat) : Int) - 1) == 0 && (-1 : Int) == 1 && its.toArray.size == its.toArray.size) = true) := by
    intro q
    rw [Bool.and_eq_true, Bool.and_eq_true] at q
    exact absurd q.1.2 (by decide)
  show wpAny _ _ (if ((((its.toArray.size : Nat) : Int) - 1) == 0 && (-1 : Int) == 1 && its.toArray.size == its.toArray.size) = true then _ else _) _ _ s
  rw [if_neg hno, List.size_toArray, back_pick]
  exact wpAny_bind (m := Builtin.Tuple.tupleExact _) (wpAny_newObj_type (wpAny_pure ⟨_, rfl, wpAny_pure h⟩) fit)
end
section
variable {X : Cx} {G : Nat → Option Addr} {W : WX} {e : Expr} {pos : Pos} {K : PySem.W.Frag} {ρ : List Addr} {H : Hp}
theorem RDs.reverse {ds : List D} {xs : List V} (r : RDs K G ρ H ds xs) : RDs K G ρ H ds.reverse xs.reverse := by
  induction ds generalizing xs with
  | nil => cases r; exact .nil
  | cons d ds ih =>
    cases r with
    | cons a b =>
      rw [List.reverse_cons, List.reverse_cons]
      exact (ih b).append (.cons a .nil)
def backD (x : D) (h : MH) : Option (D × MH) := match x with
  | .tup xs => some (.tup xs.reverse, h)
  | .ref i => match h.seq i with
    | some xs => some (.ref h.n, h.add (.lst xs.reverse))
    | none => none
  | _ => none
/-- x[::-1] -/
theorem me_back {m : Mx} {k : Nat} {p1 p2 p3 : Pos} (he : PE X e (RdE X.K G W m)) : PE X (.Subscript e (.Slice none none (some (.UnaryOp .USub (.Constant (.int 1) k p1) p2)) p3) pos) (RdE X.K G W (eUn backD m)) := by
  refine PE.imp (t := fun σ H Q => RdE X.K G W m σ H fun x H1 => ∃ a, x = .ref a ∧ ((∃ xs, SqL X.K H1 a xs ∧ ∀ p, H1 p = none → Q (.ref p) (upd H1 p (.lst xs.reverse))) ∨ ∃ xs, SqT X.K H1 a xs ∧ ∀ p, H1 p = none → Q (.ref p) (upd H1 p (.tup xs.reverse)))) ⟨fun pins s σ H Q I h => ?_⟩ fun σ H Q q => ?_
  · refine Subscript_ (thn (he.run pins s σ H _ I h) fun v s1 ⟨x, H1, I1, r1, a, ex, q1⟩ => ?_)
    subst ex
    cases r1
    have hst : PO X (some (.UnaryOp .USub (.Constant (.int 1) k p1) p2)) (tPart (tUn (rU fun i => .int (-i)) (tC (.int 1)))) := po_some (pe_un un_neg pe_int)
    refine wpAny_Slice (thn (po_none.run pins s1 σ H1 (fun o H2 => o = none ∧ H2 = H1) I1 ⟨rfl, rfl⟩) fun vl s2 ⟨l, H2, I2, pl, el, e2⟩ => ?_)
    subst el e2
    refine thn (po_none.run pins s2 σ H2 (fun o H3 => o = none ∧ H3 = H2) I2 ⟨rfl, rfl⟩) fun vu s3 ⟨u, H3, I3, pu, eu, e3⟩ => ?_
    subst eu e3
    refine thn (hst.run pins s3 σ H3 (fun o H4 => o = some (-1) ∧ H4 = H3) I3 ⟨1, rfl, -1, rfl, rfl, rfl⟩) fun vs s4 ⟨o, H4, I4, ps, eo, e4⟩ => ?_
    subst eo e4
    cases pl
    cases pu
    have I5 : Inv X pins σ H4 { s4 with heap := s4.heap.push { cls := .type "slice", data := .fields #[.none, .none, vs] } } := I4.kept (t' := s4.toks) fun b ob q => Heap.get?_push_of_some _ q
    rcases q1 with ⟨xs, hx, q⟩ | ⟨xs, hx, q⟩
    · obtain ⟨its, r, ht, hz⟩ := I5.list hx
      show wpAny (model X.prog X.w) X.A (subscriptTail e (.Slice none none (some (.UnaryOp .USub (.Constant (.int 1) k p1) p2)) p3) (.ref a) (.ref s4.heap.objs.size)) (EP X pins σ Q) X.xe { s4 with heap := s4.heap.push { cls := .type "slice", data := .fields #[.none, .none, vs] } }
      refine tail_any (ops := [.ref a, .ref s4.heap.objs.size]) ht.isList.typeIs (PySem.slot_list_getitem.lookup) ?_ (by with_unfolding_all rfl)
      refine wpAny_getItem_list_slice ht.isList (Heap.IsSliceOf.new _ .none .none vs) .none .none ps (by decide) ?_ (by rw [List.size_toArray, ← r.length]; exact hz)
      rw [PySem.W.krv_pick]
      refine ⟨.ref _, _, I5.laid (t' := s4.toks) (o := .lst xs.reverse) (fun b ob q => Heap.get?_push_of_some _ q) (Nat.le_refl _) ?_, rfl, q _ (I5.hok.fresh (Nat.le_refl _))⟩
      exact ⟨by rw [List.length_reverse]; exact hz, _, 0, r.reverse, Heap.get?_push_size _ rfl⟩
    · obtain ⟨its, r, ht, hz⟩ := I5.tuple hx
      show wpAny (model X.prog X.w) X.A (subscriptTail e (.Slice none none (some (.UnaryOp .USub (.Constant (.int 1) k p1) p2)) p3) (.ref a) (.ref s4.heap.objs.size)) (EP X pins σ Q) X.xe { s4 with heap := s4.heap.push { cls := .type "slice", data := .fields #[.none, .none, vs] } }
      refine tail_any (ops := [.ref a, .ref s4.heap.objs.size]) ht.typeIs (PyProof.Rows.slot_tuple_getitem.lookup) ?_ (by with_unfolding_all rfl)
      refine getItem_tuple_back ht (Heap.IsSliceOf.new _ .none .none vs) ps ?_ (by rw [← r.length]; exact hz)
      refine ⟨.ref _, _, I5.laid (t' := s4.toks) (o := .tup xs.reverse) (fun b ob q => Heap.get?_push_of_some _ q) (Nat.le_refl _) ?_, rfl, q _ (I5.hok.fresh (Nat.le_refl _))⟩
      exact ⟨by rw [List.length_reverse]; exact hz, _, r.reverse, ⟨_, Heap.get?_push_size _ rfl, rfl, _, rfl⟩⟩
  · obtain ⟨ρ, h, env, r, re, w⟩ := q
    refine ⟨ρ, h, env, r, re, Wp.bind w fun x h1 ρ1 H1 vx f1 r1 q1 w1 => ?_⟩
    obtain ⟨v, h', eb, k⟩ := w1.opt
    unfold backD at eb
    split at eb
    · cases eb
      cases q1 with
      | tup sa da =>
        refine ⟨_, rfl, .inr ⟨_, sa, fun p np => ?_⟩⟩
        obtain ⟨f2, r2, q2⟩ := new_tup r1 np da.reverse
        exact k _ _ _ f2 r2 q2
    · split at eb
      · rename_i xs es
        cases eb
        obtain ⟨a1, ys, p1, p2, p3⟩ := r1.seq es
        cases q1 with
        | ref ha =>
          rw [ha] at p1; cases p1
          refine ⟨_, rfl, .inl ⟨_, p2, fun p np => ?_⟩⟩
          obtain ⟨f2, r2, q2⟩ := new_lst r1 np p3.reverse
          exact k _ _ _ f2 r2 q2
      · cases eb
    · cases eb

/-! ### sorted -/
def ins {α : Type} (le : α → α → Bool) (x : α) : List α → List α
  | [] => [x]
  | y :: ys => if le x y = true then x :: y :: ys else y :: ins le x ys
def isort {α : Type} (le : α → α → Bool) : List α → List α
  | [] => []
  | x :: xs => ins le x (isort le xs)
theorem mem_ins {α : Type} {le : α → α → Bool} {x z : α} : ∀ {l : List α}, z ∈ ins le x l → z = x ∨ z ∈ l
  | [], h => by simp [ins] at h; exact .inl h
  | y :: ys, h => by
    unfold ins at h
    split at h
    · rcases List.mem_cons.mp h with h | h
      · exact .inl h
      · exact .inr h
    · rcases List.mem_cons.mp h with h | h
      · exact .inr (by rw [h]; exact List.mem_cons_self)
      · exact (mem_ins h).imp id fun q => List.mem_cons_of_mem _ q
theorem ins_pairwise {α : Type} {le : α → α → Bool} (t : PySem.W.TotalLe le) {x : α} : ∀ {l : List α}, l.Pairwise (fun a b => le a b = true) → (ins le x l).Pairwise (fun a b => le a b = true)
  | [], _ => by simp [ins]
  | y :: ys, h => by
    unfold ins
    have h' := List.pairwise_cons.mp h
    split
    · rename_i hc
      refine List.pairwise_cons.mpr ⟨fun z hz => ?_, h⟩
      rcases List.mem_cons.mp hz with q | q
      · rw [q]; exact hc
      · exact t.trans _ _ _ hc (h'.1 z q)
    · rename_i hc
      refine List.pairwise_cons.mpr ⟨fun z hz => ?_, ins_pairwise t h'.2⟩
      rcases mem_ins hz with q | q
      · rw [q]; exact (t.total x y).resolve_left hc
      · exact h'.1 z q
theorem ins_filter {α : Type} {le : α → α → Bool} (t : PySem.W.TotalLe le) {x c : α} : ∀ {l : List α}, (ins le x l).filter (PySem.W.sameRank le c) = (x :: l).filter (PySem.W.sameRank le c)
  | [] => rfl
  | y :: ys => by
    unfold ins
    split
    · rfl
    · rename_i hc
      rw [List.filter_cons, ins_filter t, List.filter_cons (x := x) (xs := ys), List.filter_cons (x := x) (xs := y :: ys), List.filter_cons (x := y) (xs := ys)]
      cases hx : PySem.W.sameRank le c x with
      | false => simp
      | true =>
        cases hy : PySem.W.sameRank le c y with
        | false => simp
        | true =>
          unfold PySem.W.sameRank at hx hy
          rw [Bool.and_eq_true] at hx hy
          exact absurd (t.trans _ _ _ hx.2 hy.1) hc
theorem isort_eq {α : Type} {le : α → α → Bool} (t : PySem.W.TotalLe le) (l : List α) : isort le l = l.mergeSort le := by
  refine PySem.W.sort_unique t ?_ fun c => ?_
  · induction l with
    | nil => exact .nil
    | cons x xs ih => exact ins_pairwise t ih
  · induction l with
    | nil => rfl
    | cons x xs ih => rw [isort, ins_filter t, List.filter_cons, ih, List.filter_cons]
def alikes (ps : List PyData) : Bool := ps.all fun p => ps.all fun q => PySem.W.alike p q
def fullTup : PyData → Bool
  | .tuple (_ :: _) => true
  | _ => false
def noTup : PyData → Bool
  | .none => false
  | .tuple _ => false
  | _ => true
def leP (a b : D × PyData) : Bool := PySem.W.dataLe false Prod.snd a b
def sortedF (ds : List D) (h : MH) : Option (D × MH) := match ds with
  | [.ref i] => match h.seq i with
    | some xs => match snaps (snap h deep) xs with
      | some ps => if alikes ps && (ps.all fullTup || ps.all noTup) && ps.all (fun p => decide (p.depth ≤ 64)) then some (.ref h.n, h.add (.lst ((isort leP (xs.zip ps)).map Prod.fst))) else none
      | none => none
    | none => none
  | _ => none
theorem zip_each {hp : Heap} (hf : ∀ (d : D) (v : V) (u : Value) (p : PyData), RD K G ρ H d v → RelV v u → Dp K H v p → ∃ as, Reads hp u p as) : ∀ {ds : List D} {xs : List V} {us : List Value} {ps : List PyData}, RDs K G ρ H ds xs → Vals xs us → DpAll K H xs ps →
    PySem.W.EachIs (fun (u : Value) (b : D × PyData) => ∃ v, RelV v u ∧ RD K G ρ H b.1 v) us (ds.zip ps) ∧ PySem.W.EachIs (fun (u : Value) (b : D × PyData) => ∃ as, Reads hp u b.2 as) us (ds.zip ps)
  | _, _, _, _, .nil, .nil, .nil => ⟨.nil, .nil⟩
  | _, _, _, _, .cons a b, .cons r t, .cons p q => by
    obtain ⟨h1, h2⟩ := zip_each hf b t q
    exact ⟨.cons ⟨_, r, a⟩ h1, .cons (hf _ _ _ _ a r p) h2⟩
theorem each_vals : ∀ {us : List Value} {bs : List (D × PyData)}, PySem.W.EachIs (fun (u : Value) (b : D × PyData) => ∃ v, RelV v u ∧ RD K G ρ H b.1 v) us bs → ∃ vs, Vals vs us ∧ RDs K G ρ H (bs.map Prod.fst) vs
  | _, _, .nil => ⟨[], .nil, .nil⟩
  | _, _, .cons ⟨v, r, q⟩ t => by
    obtain ⟨vs, h1, h2⟩ := each_vals t
    exact ⟨v :: vs, .cons r h1, .cons q h2⟩
theorem zip_snd : ∀ {ds : List D} {ps : List PyData}, ds.length = ps.length → (ds.zip ps).map Prod.snd = ps
  | [], [], _ => rfl
  | d :: ds, p :: ps, e => by rw [List.zip_cons_cons, List.map_cons, zip_snd (Nat.succ.inj e)]
theorem dps_length : ∀ {xs : List V} {ps : List PyData}, DpAll K H xs ps → xs.length = ps.length
  | _, _, .nil => rfl
  | _, _, .cons _ q => by rw [List.length_cons, List.length_cons, dps_length q]
theorem ok_sorted (hu : X.A.units + 70 < cLine) : CallOK X G (.builtin "sorted") sortedF := by
  intro pins s σ H vs us Q I r q
  obtain ⟨ρ, h, ds, w, h', R, rs, e, k⟩ := q
  unfold sortedF at e
  split at e
  · rename_i i
    split at e
    · rename_i xs es
      split at e
      · rename_i ps ep
        split at e
        · rename_i hc
          cases e
          rw [Bool.and_eq_true, Bool.and_eq_true] at hc
          obtain ⟨⟨c1, c2⟩, c3⟩ := hc
          obtain ⟨a, ys, p1, p2, p3⟩ := R.seq es
          cases rs with
          | cons r1 r2 =>
            cases r2
            cases r1 with
            | ref ha =>
              rw [ha] at p1; cases p1
              rw [Vals.ref1 r]
              obtain ⟨its, rv, hl, hz⟩ := I.list p2
              have dp := snaps_ok (fun d v p a b => snap_ok R deep d v p a b) xs ys ps p3 ep
              obtain ⟨e1, e2⟩ := zip_each (hp := s.heap) (fun d v u p _ ru dp => Dp.reads I p v u dp ru) p3 rv dp
              have hlen : xs.length = ps.length := p3.length.trans (dps_length dp)
              have hsnd := zip_snd hlen
              refine PySem.W.sorted_data (enc := Prod.snd) hl.isList e1 e2 ?_ ?_ (by rw [List.length_zip, ← hlen, Nat.min_self, p3.length]; exact hz) (fun b hb => ?_) fun out ho eo => ?_
              · rw [hsnd]
                intro d hd d' hd'
                exact List.all_eq_true.mp (List.all_eq_true.mp c1 d hd) d' hd'
              · rw [hsnd]
                rw [Bool.or_eq_true] at c2
                rcases c2 with c2 | c2
                · refine .inl fun d hd => ?_
                  have := List.all_eq_true.mp c2 d hd
                  unfold fullTup at this
                  split at this
                  · exact ⟨_, _, rfl⟩
                  · cases this
                · refine .inr fun d hd => ?_
                  have := List.all_eq_true.mp c2 d hd
                  refine ⟨?_, ?_⟩
                  · rintro rfl; cases this
                  · rintro xs rfl; cases this
              · have hb2 : b.2 ∈ ps := (List.of_mem_zip hb).2
                have := of_decide_eq_true (List.all_eq_true.mp c3 b.2 hb2)
                omega
              · obtain ⟨ep', he'⟩ := PyProof.Rows.sortedAll_at s.heap its (List.toArray out)
                obtain ⟨ws, h1, h2⟩ := each_vals eo
                have es' : isort leP (xs.zip ps) = (xs.zip ps).mergeSort (PySem.W.dataLe false Prod.snd) := isort_eq (le := PySem.W.dataLe false Prod.snd) (PySem.W.sortLe_total _ _ _) _
                rw [← es'] at h2
                have np : H (s.heap.objs.size + 1) = none := I.hok.fresh (Nat.le_succ _)
                obtain ⟨f3, r3, q3⟩ := new_lst R np h2
                have wl : ws.length ≤ sizeLine := by
                  rw [h1.length, ho, List.length_zip, ← hlen, Nat.min_self, p3.length]
                  exact hz
                exact ⟨.ref _, upd H (s.heap.objs.size + 1) (.lst ws), I.laid (t' := s.toks) (fun _ _ => PyProof.Rows.sortedAll_old) (Nat.le_succ _) ⟨wl, out, ep', h1, he'⟩, rfl, k _ _ _ f3 r3 q3⟩
        · cases e
      · cases e
    · cases e
  · cases e
end
end MM
namespace MM
open PySem PySem.Spec PyProof.Rows L2
theorem bt_len : bootBuiltins "len" = some (.builtin "len") := by decide +kernel
theorem bt_abs : bootBuiltins "abs" = some (.builtin "abs") := by decide +kernel
theorem bt_max : bootBuiltins "max" = some (.builtin "max") := by decide +kernel
theorem bt_min : bootBuiltins "min" = some (.builtin "min") := by decide +kernel
theorem bt_isinstance : bootBuiltins "isinstance" = some (.builtin "isinstance") := by decide +kernel
theorem bt_all : bootBuiltins "all" = some (.builtin "all") := by decide +kernel
theorem bt_any : bootBuiltins "any" = some (.builtin "any") := by decide +kernel
theorem bt_sum : bootBuiltins "sum" = some (.builtin "sum") := by decide +kernel
theorem bt_repr : bootBuiltins "repr" = some (.builtin "repr") := by decide +kernel
theorem bt_sorted : bootBuiltins "sorted" = some (.builtin "sorted") := by decide +kernel
theorem bt_int : bootBuiltins "int" = some (.type "int") := by decide +kernel
theorem bt_bool : bootBuiltins "bool" = some (.type "bool") := by decide +kernel
theorem bt_str : bootBuiltins "str" = some (.type "str") := by decide +kernel
theorem bt_tuple : bootBuiltins "tuple" = some (.type "tuple") := by decide +kernel
theorem bt_list : bootBuiltins "list" = some (.type "list") := by decide +kernel
theorem bt_dict : bootBuiltins "dict" = some (.type "dict") := by decide +kernel
theorem hu65 {k : Nat} {A : Around} (r : Room k A) : A.units + 65 < cLine := by have := r.un; omega
theorem hu66 {k : Nat} {A : Around} (r : Room k A) : A.units + 66 < cLine := by have := r.un; omega
theorem hu70 {k : Nat} {A : Around} (r : Room k A) : A.units + 70 < cLine := by have := r.un; omega
end MM

set_option Elab.async false
set_option linter.all false
set_option maxRecDepth 100000
set_option maxHeartbeats 4000000
set_option autoImplicit false
/-! [elt for .. for ..]; three names at once; += -/
namespace MM
open PySem PySem.Spec PyProof.Rows L2
section
variable {X : Cx} {G : Nat → Option Addr} {W : WX} {e : Expr} {pos : Pos}
theorem wipe_wipe (vs : List Nat) (σ : L2.St) : L2.wipe (L2.wipe σ vs) vs = L2.wipe σ vs := by
  have key : ∀ (ws : List Nat) (τ : L2.St), (∀ i ∈ ws, i ∈ vs) → L2.wipe (L2.wipe τ ws) vs = L2.wipe τ vs := by
    intro ws
    induction ws with
    | nil => intro τ _; rfl
    | cons w ws ih =>
      intro τ hm
      show L2.wipe ((L2.wipe τ ws).set w none) vs = _
      rw [wipe_set (hm w List.mem_cons_self)]
      exact ih τ fun i hi => hm i (List.mem_cons_of_mem _ hi)
  exact key vs σ fun i hi => hi
/-- the loop of a comprehension's last for -/
theorem lc_loop {K : PySem.W.Frag} {it : MI} {J : It} {ρ0 : List Addr} {H0 : Hp} {h0 hE : MH} {t : Tg} {tt : Mt} {te : Mx} {env : ME} {σ : L2.St} {vs : List Nat} {dI : Nat} {D : Addr} {Nxt : Hp → Prop}
    (q0 : RIt K G ρ0 H0 it J) (r0 : Rel K G ρ0 h0 H0) (re0 : REnv K G ρ0 H0 env (L2.wipe σ vs)) (atD : ρ0[dI]? = some D) (ho : ∀ i ∈ t.slots, i ∈ vs) (el : lcL it t tt te env dI it.n 0 h0 = some hE)
    (fin : ∀ ρ H, Fut K ρ0 H0 ρ H → Rel K G ρ hE H → Nxt H) :
    ∃ W1 : Nat → Nat → Hp → Prop, (∃ m, W1 0 m H0) ∧ ∀ i m H, W1 i m H → (J.stop i H ∧ Nxt H) ∨ (J.go i H ∧ ∃ Nx : Hp → Prop, (∀ H', Nx H' → ∃ m', m' < m ∧ W1 (i + 1) m' H') ∧ ∀ x H', J.yld i H x H' →
      RdG K G t x (L2.wipe σ vs) H' fun σ2 H2 => L2.wipe σ2 vs = L2.wipe σ vs ∧ RdT K G W0 tt σ2 H2 fun b H3 => if b = true then RdE K G W0 te σ2 H3 fun y H4 => ∃ acc, H4 D = some (.lst acc) ∧ acc.length < sizeLine ∧ Nx (upd H4 D (.lst (acc ++ [y]))) else Nx H3) := by
  refine ⟨fun i m H => m = it.n - i ∧ i ≤ it.n ∧ ∃ (ρ : List Addr) (h : MH), Fut K ρ0 H0 ρ H ∧ Rel K G ρ h H ∧ lcL it t tt te env dI (it.n - i) i h = some hE, ⟨it.n, rfl, Nat.zero_le _, _, _, .refl, r0, el⟩, ?_⟩
  rintro i m H ⟨rfl, hi, ρ, h, f, r, el⟩
  obtain ⟨q1, q2⟩ := q0 i ρ h H f r
  by_cases hlt : i < it.n
  · obtain ⟨rem, er⟩ : ∃ rem, it.n - i = rem + 1 := ⟨it.n - i - 1, by omega⟩
    rw [er, lcL] at el
    split at el
    · cases el
    · rename_i d ed
      split at el
      · cases el
      · rename_i e1 ea
        obtain ⟨hgo, hy⟩ := q1 d hlt ed
        refine .inr ⟨hgo, fun H' => ∃ (ρ : List Addr) (h : MH), Fut K ρ0 H0 ρ H' ∧ Rel K G ρ h H' ∧ lcL it t tt te env dI rem (i + 1) h = some hE, fun H' p => ?_, fun x H' y => ?_⟩
        · obtain ⟨ρ', h', g1, g2, g3⟩ := p
          exact ⟨it.n - (i + 1), by omega, rfl, by omega, ρ', h', g1, g2, by rw [show it.n - (i + 1) = rem by omega]; exact g3⟩
        · obtain ⟨f1, r1, rd⟩ := hy x H' y
          refine ⟨ρ, h, env, d, e1, r1, re0.fut (f.trans f1), rd, ea, fun σ2 re2 wp => ⟨by rw [wp vs ho]; exact wipe_wipe vs σ, ρ, h, e1, r1, re2, ?_⟩⟩
          cases eb : tt e1 h with
          | exc C fs h2 => rw [eb] at el; cases el
          | bad => rw [eb] at el; cases el
          | ok k h2 =>
            intro ρ3 H3 b f3 r3 q3
            subst q3
            cases k with
            | false =>
              rw [eb] at el
              exact ⟨ρ3, h2, (f.trans f1).trans f3, r3, el⟩
            | true =>
              rw [eb] at el
              refine ⟨ρ3, h2, e1, r3, re2.fut f3, ?_⟩
              cases ex : te e1 h2 with
              | exc C fs h2 => simp only [ex] at el; cases el
              | bad => simp only [ex] at el; cases el
              | ok yv h3 =>
                simp only [ex] at el
                intro ρ4 H4 vy f4 r4 q4
                have fA := ((f.trans f1).trans f3).trans f4
                unfold pushD at el
                cases eg : h3.get dI with
                | none => simp only [eg] at el; cases el
                | some ob =>
                  cases ob with
                  | lst acc =>
                    simp only [eg] at el
                    by_cases hz : acc.length < sizeLine
                    · rw [if_pos hz] at el
                      obtain ⟨a1, ys, p1, p2, p3⟩ := r4.lst eg
                      rw [fA.at atD] at p1; cases p1
                      obtain ⟨fu, ru⟩ := r4.lset eg (fA.at atD) p2 (p3.append (.cons q4 .nil))
                      exact ⟨ys, p2, by rw [← p3.length]; exact hz, ρ4, _, fA.trans fu, ru, el⟩
                    · rw [if_neg hz] at el; cases el
                  | _ => simp only [eg] at el; cases el
  · have e : i = it.n := by omega
    subst e
    rw [Nat.sub_self, lcL] at el
    split at el
    · rename_i ef
      cases el
      exact .inl ⟨q2 ef, fin ρ H f r⟩
    · cases el
/-- the first for of two -/
def lc2L (it : MI) (t : Tg) (tt : Mt) (mi1 : Mi) (t1 : Tg) (tt1 : Mt) (te : Mx) (env : ME) (vs1 : List Nat) (L : Nat) : Nat → Nat → MH → Option MH
  | 0, _, h => if it.fin h = true then some h else none
  | r + 1, k, h => match it.at h k with
    | none => none
    | some d => match asg h t d env with
      | none => none
      | some e1 => match tt e1 h with
        | .ok true h2 => match mi1 e1 h2 with
          | .ok it1 h3 => match lcL it1 t1 tt1 te (wipeE e1 vs1) L it1.n 0 h3 with
            | some h4 => lc2L it t tt mi1 t1 tt1 te env vs1 L r (k + 1) h4
            | none => none
          | _ => none
        | .ok false h2 => lc2L it t tt mi1 t1 tt1 te env vs1 L r (k + 1) h2
        | _ => none
def eLc2 (mi : Mi) (t : Tg) (tt : Mt) (mi1 : Mi) (t1 : Tg) (tt1 : Mt) (te : Mx) (own vs1 : List Nat) : Mx := fun env h => (mi env h).bind fun it h1 => match lc2L it t tt mi1 t1 tt1 te (wipeE env own) vs1 h1.n it.n 0 (h1.add (.lst [])) with
  | some h2 => .ok (.ref h1.n) h2
  | none => .bad
theorem lc2_rd {mi mi1 : Mi} {t t1 : Tg} {tt tt1 : Mt} {te : Mx} {own vs1 : List Nat} {σ : L2.St} {H : Hp} {Q : VK} (ho : ∀ i ∈ t.slots, i ∈ own) (ho1 : ∀ i ∈ t1.slots, i ∈ vs1) (q : RdE X.K G W (eLc2 mi t tt mi1 t1 tt1 te own vs1) σ H Q) :
    tLc2 (RdI X.K G W mi) (RdG X.K G t) (RdT X.K G W0 tt) (RdI X.K G W0 mi1) (RdG X.K G t1) (RdT X.K G W0 tt1) (RdE X.K G W0 te) own vs1 σ H Q := by
  obtain ⟨ρ, h, env, r, re, w⟩ := q
  refine ⟨ρ, h, env, r, re, Wp.bind w fun it h1 ρ0 H0 J f0 r0 q0 w0 => ?_⟩
  have re0 := (re.fut f0).wipe own
  intro D nD
  cases el : lc2L it t tt mi1 t1 tt1 te (wipeE env own) vs1 h1.n it.n 0 (h1.add (.lst [])) with
  | none => rw [el] at w0; exact w0.elim
  | some hE =>
    rw [el] at w0
    obtain ⟨fN, rN, dN⟩ := new_lst r0 nD RDs.nil
    have atD : ∀ {ρ H}, Fut X.K (ρ0 ++ [D]) (upd H0 D (.lst [])) ρ H → ρ[h1.n]? = some D := fun f => f.at (by rw [← r0.len]; simp)
    refine ⟨fun i m H => m = it.n - i ∧ i ≤ it.n ∧ ∃ (ρ : List Addr) (h : MH), Fut X.K (ρ0 ++ [D]) (upd H0 D (.lst [])) ρ H ∧ Rel X.K G ρ h H ∧ lc2L it t tt mi1 t1 tt1 te (wipeE env own) vs1 h1.n (it.n - i) i h = some hE,
      ⟨it.n, rfl, Nat.zero_le _, _, _, .refl, rN, el⟩, ?_⟩
    rintro i m H ⟨rfl, hi, ρ, h, f, r, el⟩
    obtain ⟨q1, q2⟩ := q0 i ρ h H (fN.trans f) r
    by_cases hlt : i < it.n
    · obtain ⟨rem, er⟩ : ∃ rem, it.n - i = rem + 1 := ⟨it.n - i - 1, by omega⟩
      rw [er, lc2L] at el
      split at el
      · cases el
      · rename_i d ed
        split at el
        · cases el
        · rename_i e1 ea
          obtain ⟨hgo, hy⟩ := q1 d hlt ed
          have step : ∀ (ρ : List Addr) (h : MH) (H' : Hp), Fut X.K (ρ0 ++ [D]) (upd H0 D (.lst [])) ρ H' → Rel X.K G ρ h H' → lc2L it t tt mi1 t1 tt1 te (wipeE env own) vs1 h1.n rem (i + 1) h = some hE →
              ∃ (ρ : List Addr) (h : MH), Fut X.K (ρ0 ++ [D]) (upd H0 D (.lst [])) ρ H' ∧ Rel X.K G ρ h H' ∧ lc2L it t tt mi1 t1 tt1 te (wipeE env own) vs1 h1.n rem (i + 1) h = some hE := fun ρ h H' a b c => ⟨ρ, h, a, b, c⟩
          refine .inr ⟨hgo, fun H' => ∃ (ρ : List Addr) (h : MH), Fut X.K (ρ0 ++ [D]) (upd H0 D (.lst [])) ρ H' ∧ Rel X.K G ρ h H' ∧ lc2L it t tt mi1 t1 tt1 te (wipeE env own) vs1 h1.n rem (i + 1) h = some hE, fun H' p => ?_, fun x H' y => ?_⟩
          · obtain ⟨ρ', h', g1, g2, g3⟩ := p
            exact ⟨it.n - (i + 1), by omega, rfl, by omega, ρ', h', g1, g2, by rw [show it.n - (i + 1) = rem by omega]; exact g3⟩
          · obtain ⟨f1, r1, rd⟩ := hy x H' y
            refine ⟨ρ, h, wipeE env own, d, e1, r1, re0.fut ((fN.trans f).trans f1), rd, ea, fun σ2 re2 wp => ⟨by rw [wp own ho]; exact wipe_wipe own σ, ρ, h, e1, r1, re2, ?_⟩⟩
            cases eb : tt e1 h with
            | exc C fs h2 => rw [eb] at el; cases el
            | bad => rw [eb] at el; cases el
            | ok k h2 =>
              intro ρ3 H3 b f3 r3 q3
              subst q3
              cases k with
              | false =>
                rw [eb] at el
                exact step ρ3 h2 H3 ((f.trans f1).trans f3) r3 el
              | true =>
                rw [eb] at el
                refine ⟨ρ3, h2, e1, r3, re2.fut f3, ?_⟩
                cases ei : mi1 e1 h2 with
                | exc C fs h2 => simp only [ei] at el; cases el
                | bad => simp only [ei] at el; cases el
                | ok it1 h3 =>
                  simp only [ei] at el
                  intro ρ4 H4 J1 f4 r4 q4
                  have fA := ((f.trans f1).trans f3).trans f4
                  cases e5 : lcL it1 t1 tt1 te (wipeE e1 vs1) h1.n it1.n 0 h3 with
                  | none => simp only [e5] at el; cases el
                  | some h4 =>
                    simp only [e5] at el
                    exact lc_loop q4 r4 (((re2.fut f3).fut f4).wipe vs1) (atD fA) ho1 e5 fun ρ5 H5 f5 r5 => step ρ5 h4 H5 (fA.trans f5) r5 el
    · have e : i = it.n := by omega
      subst e
      rw [Nat.sub_self, lc2L] at el
      split at el
      · rename_i ef
        cases el
        exact .inl ⟨q2 ef, w0 _ _ _ (fN.trans f) r (.ref (atD f))⟩
      · cases el
section
variable {elt tg iter tg1 iter1 : Expr} {ifs ifs1 : List Expr} {scope : Scope} {own : List (Str × Nat)} {vs1 : List Nat} {mi mi1 : Mi} {t t1 : Tg} {tt tt1 : Mt} {te : Mx}
theorem me_lc2 (hc : X.calm = true) (hN : X.N.Nodup) (hi : PI X tg iter (RdI X.K G W mi)) (ok : BlkOk X.N X.env.scope scope own) (ho : ∀ i ∈ t.slots, i ∈ own.map (·.2)) (ho1 : ∀ i ∈ t1.slots, i ∈ vs1) (hv : ∀ i ∈ vs1, i ∈ own.map (·.2))
    (hg : ∀ (s : Shared) (H : Hp) (C : Addr) (cl : List (Str × Addr)) (fp : List Addr), PG (X.blk s H scope (compEnvC scope cl C X.env) fp) tg (RdG X.K G t)) (ht : ∀ (s : Shared) (H : Hp) (C : Addr) (cl : List (Str × Addr)) (fp : List Addr), PTs (X.blk s H scope (compEnvC scope cl C X.env) fp) ifs (RdT X.K G W0 tt))
    (hi1 : ∀ (s : Shared) (H : Hp) (C : Addr) (cl : List (Str × Addr)) (fp : List Addr), PI (X.blk s H scope (compEnvC scope cl C X.env) fp) tg1 iter1 (RdI X.K G W0 mi1))
    (hg1 : ∀ (s : Shared) (H : Hp) (C : Addr) (cl : List (Str × Addr)) (fp : List Addr), PG (X.blk s H scope (compEnvC scope cl C X.env) fp) tg1 (RdG X.K G t1)) (ht1 : ∀ (s : Shared) (H : Hp) (C : Addr) (cl : List (Str × Addr)) (fp : List Addr), PTs (X.blk s H scope (compEnvC scope cl C X.env) fp) ifs1 (RdT X.K G W0 tt1))
    (he : ∀ (s : Shared) (H : Hp) (C : Addr) (cl : List (Str × Addr)) (fp : List Addr), PE (X.blk s H scope (compEnvC scope cl C X.env) fp) elt (RdE X.K G W0 te)) (hs : ∀ x, foldedSetIterable iter X.env x = pure x := by intro _; rfl) (hs1 : ∀ env x, foldedSetIterable iter1 env x = pure x := by intro _ _; rfl) :
    PE X (.ListComp elt [⟨tg, iter, ifs, 0⟩, ⟨tg1, iter1, ifs1, 0⟩] scope pos) (RdE X.K G W (eLc2 mi t tt mi1 t1 tt1 te (own.map (·.2)) vs1)) := PE.imp (pe_lc2 hc hN hi ok hv hg ht hi1 hg1 ht1 he hs hs1) fun σ H Q q => lc2_rd ho ho1 q
theorem ms_setLc2 {i : Nat} {y : Str} {py spos : Pos} (hc : X.calm = true) (hN : X.N.Nodup) (hy : X.N[i]? = some y) (hyl : X.env.scope.names.lookup y = some .local)
    (hsw : swapsWith (.ListComp elt [⟨tg, iter, ifs, 0⟩, ⟨tg1, iter1, ifs1, 0⟩] scope pos) (some (.Name y py)) spos.line X.env = pure true) (hi : PI X tg iter (RdI X.K G W mi)) (ok : BlkOk X.N X.env.scope scope own) (ho : ∀ i ∈ t.slots, i ∈ own.map (·.2)) (ho1 : ∀ i ∈ t1.slots, i ∈ vs1) (hv : ∀ i ∈ vs1, i ∈ own.map (·.2))
    (hg : ∀ (s : Shared) (H : Hp) (C : Addr) (cl : List (Str × Addr)) (fp : List Addr), PG (X.blk s H scope (compEnvC scope cl C X.env) fp) tg (RdG X.K G t)) (ht : ∀ (s : Shared) (H : Hp) (C : Addr) (cl : List (Str × Addr)) (fp : List Addr), PTs (X.blk s H scope (compEnvC scope cl C X.env) fp) ifs (RdT X.K G W0 tt))
    (hi1 : ∀ (s : Shared) (H : Hp) (C : Addr) (cl : List (Str × Addr)) (fp : List Addr), PI (X.blk s H scope (compEnvC scope cl C X.env) fp) tg1 iter1 (RdI X.K G W0 mi1))
    (hg1 : ∀ (s : Shared) (H : Hp) (C : Addr) (cl : List (Str × Addr)) (fp : List Addr), PG (X.blk s H scope (compEnvC scope cl C X.env) fp) tg1 (RdG X.K G t1)) (ht1 : ∀ (s : Shared) (H : Hp) (C : Addr) (cl : List (Str × Addr)) (fp : List Addr), PTs (X.blk s H scope (compEnvC scope cl C X.env) fp) ifs1 (RdT X.K G W0 tt1))
    (he : ∀ (s : Shared) (H : Hp) (C : Addr) (cl : List (Str × Addr)) (fp : List Addr), PE (X.blk s H scope (compEnvC scope cl C X.env) fp) elt (RdE X.K G W0 te)) (hs : ∀ x, foldedSetIterable iter X.env x = pure x := by intro _; rfl) (hs1 : ∀ env x, foldedSetIterable iter1 env x = pure x := by intro _ _; rfl) :
    PS X (.Assign [.Name y py] (.ListComp elt [⟨tg, iter, ifs, 0⟩, ⟨tg1, iter1, ifs1, 0⟩] scope pos) spos) (RdS X.K G W (sSet i (eLc2 mi t tt mi1 t1 tt1 te (own.map (·.2)) vs1))) := by
  refine PS.imp (L2.ps_setLc2 hc hN hy hyl hsw hi ok hv hg ht hi1 hg1 ht1 he hs hs1) fun D σ H q => ?_
  obtain ⟨ρ, h, env, r, re, w⟩ := q
  exact lc2_rd (G := G) (W := W) ho ho1 ⟨ρ, h, env, r, re, WpS.bind w re fun x h1 ρ1 H1 vx f1 r1 q1 re1 w1 => w1.go r1 (re1.set q1)⟩
end
/-- a, b, c = x, y, z (plain names) -/
def sPar3 (i j l : Nat) (ms : Ma) : Ms := fun env h => (ms env h).toS env fun vs h1 => match vs with
  | [u, v, w] => .nx (((env.set i (some u)).set j (some v)).set l (some w)) h1
  | _ => .bad
theorem ms_par3 {i j l : Nat} {x y z : Str} {a b c : Expr} {ms : Ma} {px py pz pt : Pos} {kt k2 : Nat} {pt2 : Pos} (hc : X.calm = true) (hN : X.N.Nodup) (hi : X.N[i]? = some x) (hj : X.N[j]? = some y) (hl : X.N[l]? = some z) (hij : i ≠ j) (hil : i ≠ l) (hjl : j ≠ l)
    (hx : X.env.scope.names.lookup x = some .local) (hy : X.env.scope.names.lookup y = some .local) (hz : X.env.scope.names.lookup z = some .local) (ha : PA X [a, b, c] (RdA X.K G W ms))
    (hw : swappedStores [.Tuple [.Name x px, .Name y py, .Name z pz] kt pt] (.Tuple [a, b, c] k2 pt2) X.env = pure (some [x, y, z]) := by rfl)
    (hs : swapsWithSole [.Tuple [.Name x px, .Name y py, .Name z pz] kt pt] (.Tuple [a, b, c] k2 pt2) pos.line X.env = pure false := by rfl) :
    PS X (.Assign [.Tuple [.Name x px, .Name y py, .Name z pz] kt pt] (.Tuple [a, b, c] k2 pt2) pos) (RdS X.K G W (sPar3 i j l ms)) := by
  refine PS.imp (L2.ps_par3 hc hN hi hj hl hij hil hjl hx hy hz ha hw hs) fun D σ H q => ?_
  obtain ⟨ρ, h, env, r, re, w⟩ := q
  refine ⟨ρ, h, env, r, re, WpS.bind w re fun vs h1 ρ1 H1 us f1 r1 q1 re1 w1 => ?_⟩
  cases q1 with
  | nil => exact w1.elim
  | cons a1 b1 =>
    cases b1 with
    | nil => exact w1.elim
    | cons a2 b2 =>
      cases b2 with
      | nil => exact w1.elim
      | cons a3 b3 =>
        cases b3 with
        | nil => exact ⟨_, _, _, rfl, w1.go r1 (((re1.set a1).set a2).set a3)⟩
        | cons a4 b4 => exact w1.elim
def iaddD (a b : D) (h : MH) : Option (D × MH) := match a, b with
  | .int i, .int j => some (.int (i + j), h)
  | _, _ => none
theorem ok_iadd : OpOK X G (inplaceOp .Add) iaddD := by
  intro pins s σ H x y v u Q I rx ry q
  obtain ⟨ρ, h, a, b, w, h', R, ra, rb, e, k⟩ := q
  unfold iaddD at e
  split at e
  · cases e; cases ra; cases rb
    exact iop_add pins s σ H _ _ v u Q I rx ry ⟨_, _, rfl, rfl, k ρ H _ .refl R (.int _)⟩
  · cases e
theorem ok_isub : OpOK X G (inplaceOp .Sub) subD := by
  intro pins s σ H x y v u Q I rx ry q
  obtain ⟨ρ, h, a, b, w, h', R, ra, rb, e, k⟩ := q
  unfold subD at e
  split at e
  · cases e; cases ra; cases rb
    exact iop_sub pins s σ H _ _ v u Q I rx ry ⟨_, _, rfl, rfl, k ρ H _ .refl R (.int _)⟩
  · cases e
end
end MM

set_option Elab.async false
set_option linter.all false
set_option maxRecDepth 100000
set_option maxHeartbeats 4000000
set_option autoImplicit false
/-! one function for another: what a caller may take in place of what the text yields -/
namespace MM
open PySem PySem.Spec PyProof.Rows L2

/-! ### values that name objects below n alone -/
mutual
def D.lo (n : Nat) : D → Bool
  | .ref i => Nat.blt i n
  | .tup xs => D.los n xs
  | _ => true
def D.los (n : Nat) : List D → Bool
  | [] => true
  | x :: xs => x.lo n && D.los n xs
end
def loF {κ : Type} (n : Nat) (fs : List (κ × D)) : Bool := fs.all fun p => p.2.lo n
def O.lo (n : Nat) : O → Bool
  | .lst xs => D.los n xs
  | .ro xs => D.los n xs
  | .kl xs => D.los n xs
  | .ins _ fs => loF n fs
  | .dct ks => loF n ks
  | .rct ks => loF n ks
  | .dt ks => loF n ks
  | .rdt ks => loF n ks
section
variable {K : PySem.W.Frag} {G : Nat → Option Addr} {ρ : List Addr} {H : Hp} {h : MH}
theorem at_take {n i : Nat} {a : Addr} (e : ρ[i]? = some a) (hi : i < n) : (ρ.take n)[i]? = some a := by rw [List.getElem?_take_of_lt hi]; exact e
mutual
theorem RD.take {n : Nat} : ∀ {d : D} {v : V}, RD K G ρ H d v → d.lo n = true → RD K G (ρ.take n) H d v
  | _, _, .non, _ => .non
  | _, _, .bl b, _ => .bl b
  | _, _, .int i, _ => .int i
  | _, _, .str x, _ => .str x
  | _, _, .tup a b, q => .tup a (RDs.takeN b (by simpa [D.lo] using q))
  | _, _, .ref e, q => .ref (at_take e (by simpa [D.lo] using q))
  | _, _, .ty n, _ => .ty n
  | _, _, .rep n, _ => .rep n
  | _, _, .stat e, _ => .stat e
theorem RDs.takeN {n : Nat} : ∀ {d : List D} {v : List V}, RDs K G ρ H d v → D.los n d = true → RDs K G (ρ.take n) H d v
  | _, _, .nil, _ => .nil
  | _, _, .cons a b, q => by
    rw [D.los, Bool.and_eq_true] at q
    exact .cons (RD.take a q.1) (RDs.takeN b q.2)
end
theorem RFs.take {κ : Type} {n : Nat} : ∀ {d : List (κ × D)} {v : List (κ × V)}, RFs K G ρ H d v → loF n d = true → RFs K G (ρ.take n) H d v
  | _, _, .nil, _ => .nil
  | _, _, .cons a b, q => by
    rw [loF, List.all_cons, Bool.and_eq_true] at q
    exact .cons (a.take q.1) (RFs.take b q.2)
mutual
theorem nk_lo (n : Nat) : ∀ {d : D} {k : NestedKey}, nk d = some k → d.lo n = true
  | .non, _, e => rfl
  | .int i, _, e => rfl
  | .tup xs, _, e => by
    rw [nk, Option.map_eq_some_iff] at e
    obtain ⟨ks, e1, rfl⟩ := e
    rw [D.lo]; exact nks_lo n e1
  | .bl _, _, e => nomatch e
  | .str _, _, e => nomatch e
  | .ref _, _, e => nomatch e
  | .ty _, _, e => nomatch e
  | .stat _, _, e => nomatch e
  | .rep _, _, e => nomatch e
theorem nks_lo (n : Nat) : ∀ {xs : List D} {ks : List NestedKey}, nks xs = some ks → D.los n xs = true
  | [], _, e => rfl
  | x :: xs, _, e => by
    rw [nks] at e
    cases e1 : nk x with
    | none => rw [e1] at e; cases e
    | some k =>
      rw [e1] at e
      simp only [Option.map_eq_some_iff] at e
      obtain ⟨ks, e2, rfl⟩ := e
      rw [D.los, nk_lo n e1, nks_lo n e2]; rfl
end
theorem RKs.take {n : Nat} : ∀ {d : List (D × D)} {v : List (NestedKey × Addr × V)}, RKs K G ρ H d v → loF n d = true → RKs K G (ρ.take n) H d v
  | _, _, .nil, _ => .nil
  | _, _, .cons e a b c, q => by
    rw [loF, List.all_cons, Bool.and_eq_true] at q
    exact .cons e (a.take (nk_lo n e)) (b.take q.1) (RKs.take c q.2)
theorem RO.take {n : Nat} {a : Addr} {o : O} (r : RO K G ρ H a o) (q : o.lo n = true) : RO K G (ρ.take n) H a o := by
  cases o with
  | lst ds => obtain ⟨xs, e, z⟩ := r; exact ⟨xs, e, z.takeN q⟩
  | ro ds => obtain ⟨o, xs, e, z⟩ := r; exact ⟨o, xs, e, z.takeN q⟩
  | kl ds => obtain ⟨xs, e, z⟩ := r; exact ⟨xs, e, z.takeN q⟩
  | ins C fs => obtain ⟨c, dx, vs, e0, e, z, nd⟩ := r; exact ⟨c, dx, vs, e0, e, z.take q, nd⟩
  | dct ks => obtain ⟨vs, e, z⟩ := r; exact ⟨vs, e, z.take q⟩
  | rct ks => obtain ⟨o, vs, e, z⟩ := r; exact ⟨o, vs, e, z.take q⟩
  | dt ks => obtain ⟨vs, e, y, z⟩ := r; exact ⟨vs, e, y, z.take q⟩
  | rdt ks => obtain ⟨o, vs, e, y, z⟩ := r; exact ⟨o, vs, e, y, z.take q⟩
mutual
theorem RD.lo {n : Nat} (hn : ρ.length = n) : ∀ {d : D} {v : V}, RD K G ρ H d v → d.lo n = true
  | _, _, .non => rfl
  | _, _, .bl b => rfl
  | _, _, .int i => rfl
  | _, _, .str x => rfl
  | _, _, .tup a b => by rw [D.lo]; exact RDs.los hn b
  | _, _, .ref e => by
    have := (List.getElem?_eq_some_iff.mp e).1
    simp [D.lo]; omega
  | _, _, .ty n => rfl
  | _, _, .rep n => rfl
  | _, _, .stat e => rfl
theorem RDs.los {n : Nat} (hn : ρ.length = n) : ∀ {d : List D} {v : List V}, RDs K G ρ H d v → D.los n d = true
  | _, _, .nil => rfl
  | _, _, .cons a b => by rw [D.los, RD.lo hn a, RDs.los hn b]; rfl
end
theorem RFs.lo {κ : Type} {n : Nat} (hn : ρ.length = n) : ∀ {d : List (κ × D)} {v : List (κ × V)}, RFs K G ρ H d v → loF n d = true
  | _, _, .nil => rfl
  | _, _, .cons a b => by rw [loF, List.all_cons, a.lo hn]; exact RFs.lo hn b
theorem RKs.lo {n : Nat} (hn : ρ.length = n) : ∀ {d : List (D × D)} {v : List (NestedKey × Addr × V)}, RKs K G ρ H d v → loF n d = true
  | _, _, .nil => rfl
  | _, _, .cons e a b c => by rw [loF, List.all_cons, b.lo hn]; exact RKs.lo hn c
theorem RO.lo {n : Nat} (hn : ρ.length = n) {a : Addr} {o : O} (r : RO K G ρ H a o) : o.lo n = true := by
  cases o with
  | lst ds => obtain ⟨xs, e, z⟩ := r; exact z.los hn
  | ro ds => obtain ⟨o, xs, e, z⟩ := r; exact z.los hn
  | kl ds => obtain ⟨xs, e, z⟩ := r; exact z.los hn
  | ins C fs => obtain ⟨c, dx, vs, e0, e, z, nd⟩ := r; exact z.lo hn
  | dct ks => obtain ⟨vs, e, z⟩ := r; exact z.lo hn
  | rct ks => obtain ⟨o, vs, e, z⟩ := r; exact z.lo hn
  | dt ks => obtain ⟨vs, e, y, z⟩ := r; exact z.lo hn
  | rdt ks => obtain ⟨o, vs, e, y, z⟩ := r; exact z.lo hn
end
/-- the memory h with nothing but what it names, within h2 -/
structure Sub (h h2 : MH) : Prop where
  le : h.n ≤ h2.n
  ob : ∀ i o, h.get i = some o → i < h.n ∧ h2.get i = some o ∧ o.lo h.n = true
  full : ∀ i, i < h.n → ∃ o, h.get i = some o
theorem Rel.sub {K : PySem.W.Frag} {G : Nat → Option Addr} {ρ : List Addr} {H : Hp} {h h2 : MH} (r : Rel K G ρ h2 H) (s : Sub h h2) : Rel K G (ρ.take h.n) h H := by
  have hl : (ρ.take h.n).length = h.n := by rw [List.length_take, r.len]; have := s.le; omega
  have lt : ∀ i a, (ρ.take h.n)[i]? = some a → i < h.n ∧ ρ[i]? = some a := fun i a e => by
    have hi : i < h.n := by rw [← hl]; exact (List.getElem?_eq_some_iff.mp e).1
    rw [List.getElem?_take_of_lt hi] at e
    exact ⟨hi, e⟩
  refine ⟨hl, fun i o e => ?_, fun i a e => s.full i (lt i a e).1, fun i j a o u g1 g2 k1 k2 e1 e2 => ?_⟩
  · obtain ⟨hi, e2, bl⟩ := s.ob i o e
    obtain ⟨a, q, ro⟩ := r.ob i o e2
    exact ⟨a, at_take q hi, ro.take bl⟩
  · exact r.inj i j a o u (s.ob i o g1).2.1 (s.ob j u g2).2.1 k1 k2 (lt i a e1).2 (lt j a e2).2
theorem Fut.take {K : PySem.W.Frag} {ρ ρ' : List Addr} {H H' : Hp} {n : Nat} (f : Fut K ρ H ρ' H') (hn : ρ.length ≤ n) : Fut K ρ H (ρ'.take n) H' := by
  obtain ⟨t, rfl, ht⟩ := f.pre
  refine ⟨⟨t.take (n - ρ.length), by rw [List.take_append, List.take_of_length_le hn], fun p hp => ht p (List.mem_of_mem_take hp)⟩, f.tup, f.fr, f.keep, f.xd, f.frz⟩
/-- f' may stand for f: where it says something, f says it, and holds what it holds -/
def Ref (f' f : Fn) : Prop := ∀ ds h, match f' ds h with
  | .ok v h' => (∀ (i : Nat) (o : O), h.get i = some o → i < h.n ∧ o.lo h.n = true) → (∀ i, i < h.n → ∃ o, h.get i = some o) → D.los h.n ds = true → ∃ h2, f ds h = .ok v h2 ∧ h.n ≤ h'.n ∧ Sub h' h2 ∧ v.lo h'.n = true
  | .exc C fs h' => (∀ (i : Nat) (o : O), h.get i = some o → i < h.n ∧ o.lo h.n = true) → (∀ i, i < h.n → ∃ o, h.get i = some o) → D.los h.n ds = true → ∃ h2, f ds h = .exc C fs h2 ∧ h.n ≤ h'.n ∧ Sub h' h2 ∧ loF h'.n fs = true
  | .bad => True
section
variable {P : Program} {w : World} {K : PySem.W.Frag} {mg : Str → Option Value} {base : Heap} {G : Nat → Option Addr} {k n : Nat} {f : Addr} {fd : FuncData} {ps : List Str}
theorem FnG.imp {sp sp' : Sp} (F : FnG P w K mg base k f fd ps sp) (i : ∀ vs H Q E, sp' vs H Q E → sp vs H Q E) : FnG P w K mg base k f fd ps sp' :=
  ⟨fun vs H Q E q => F.len vs H Q E (i _ _ _ _ q), fun A outer s H args us vs Q E hr hg e0 hb r q => F.run A outer s H args us vs Q E hr hg e0 hb r (i _ _ _ _ q)⟩
theorem FnG.ref {fm fm' : Fn} (F : FnG P w K mg base k f fd ps (spM K G n fm)) (hr : Ref fm' fm) : FnG P w K mg base k f fd ps (spM K G n fm') := by
  refine F.imp fun vs H Q E q => ?_
  obtain ⟨ρ, h, ds, r, rd, hl, w⟩ := q
  refine ⟨ρ, h, ds, r, rd, hl, ?_⟩
  have wf1 : ∀ (i : Nat) (o : O), h.get i = some o → i < h.n ∧ o.lo h.n = true := fun i o e => by
    obtain ⟨a, q, ro⟩ := r.ob i o e
    exact ⟨r.lt e, ro.lo r.len⟩
  have wf2 : ∀ i, i < h.n → ∃ o, h.get i = some o := fun i hi => r.full i (ρ[i]'(by rw [r.len]; exact hi)) (by simp)
  have wf3 := rd.los r.len
  have hq := hr ds h
  cases em : fm' ds h with
  | bad => rw [em] at w; exact w.elim
  | ok v h' =>
    rw [em] at w hq
    obtain ⟨h2, e2, le, sb, bl⟩ := hq wf1 wf2 wf3
    rw [e2]
    exact fun ρ' H' v' f' r' q' => w _ H' v' (f'.take (by rw [r.len]; exact le)) (r'.sub sb) (q'.take bl)
  | exc C fs h' =>
    rw [em] at w hq
    obtain ⟨h2, e2, le, sb, bl⟩ := hq wf1 wf2 wf3
    rw [e2]
    exact fun ρ' H' c d eg f' r' hx => w _ H' c d eg (f'.take (by rw [r.len]; exact le)) (r'.sub sb) (hx.imp id fun ⟨dd, vs, e1, e2, hf⟩ => ⟨dd, vs, e1, e2, hf.take bl⟩)

/-! ### arguments and a result that name no object: run on an empty memory -/

mutual
def D.shift (k : Nat) : D → D
  | .ref i => .ref (k + i)
  | .tup xs => .tup (D.shifts k xs)
  | d => d
def D.shifts (k : Nat) : List D → List D
  | [] => []
  | x :: xs => x.shift k :: D.shifts k xs
end
def shiftF {κ : Type} (k : Nat) (fs : List (κ × D)) : List (κ × D) := fs.map fun p => (p.1, p.2.shift k)
def O.shift (k : Nat) : O → O
  | .lst xs => .lst (D.shifts k xs)
  | .ro xs => .ro (D.shifts k xs)
  | .kl xs => .kl (D.shifts k xs)
  | .ins C fs => .ins C (shiftF k fs)
  | .dct ks => .dct (shiftF k ks)
  | .rct ks => .rct (shiftF k ks)
  | .dt ks => .dt (shiftF k ks)
  | .rdt ks => .rdt (shiftF k ks)
def MH.objs (h : MH) : Nat → List O
  | 0 => []
  | n + 1 => h.objs n ++ [(h.get n).getD (.lst [])]
def MH.more (h : MH) (k : Nat) (os : List O) : MH := os.foldl (fun h o => h.add (o.shift k)) h
def loc (f : Fn) : Fn := fun ds h => bif D.los 0 ds then match f ds MH.nil with
  | .ok v h2 => bif v.lo 0 then .ok v h else .ok (v.shift h.n) (h.more h.n (h2.objs h2.n))
  | .exc C fs h2 => bif loF 0 fs then .exc C fs h else .bad
  | .bad => .bad else .bad
theorem Rel.empty {H : Hp} : Rel K G [] MH.nil H := ⟨rfl, fun i o e => (by rw [MH.get_nil] at e; cases e), fun i a e => (by simp at e), fun i j a o u e => (by rw [MH.get_nil] at e; cases e)⟩
mutual
theorem RD.free {ρ ρ' : List Addr} {H H' : Hp} (t : ∀ a xs, SqT K H a xs → SqT K H' a xs) : ∀ {d : D} {v : V}, RD K G ρ H d v → d.lo 0 = true → RD K G ρ' H' d v
  | _, _, .non, _ => .non
  | _, _, .bl b, _ => .bl b
  | _, _, .int i, _ => .int i
  | _, _, .str x, _ => .str x
  | _, _, .tup a b, q => .tup (t _ _ a) (RDs.free t b (by simpa [D.lo] using q))
  | _, _, .ref e, q => by simp [D.lo] at q
  | _, _, .ty n, _ => .ty n
  | _, _, .rep n, _ => .rep n
  | _, _, .stat e, _ => .stat e
theorem RDs.free {ρ ρ' : List Addr} {H H' : Hp} (t : ∀ a xs, SqT K H a xs → SqT K H' a xs) : ∀ {d : List D} {v : List V}, RDs K G ρ H d v → D.los 0 d = true → RDs K G ρ' H' d v
  | _, _, .nil, _ => .nil
  | _, _, .cons a b, q => by
    rw [D.los, Bool.and_eq_true] at q
    exact .cons (RD.free t a q.1) (RDs.free t b q.2)
end
theorem RFs.free {κ : Type} {ρ ρ' : List Addr} {H H' : Hp} (t : ∀ a xs, SqT K H a xs → SqT K H' a xs) : ∀ {d : List (κ × D)} {v : List (κ × V)}, RFs K G ρ H d v → loF 0 d = true → RFs K G ρ' H' d v
  | _, _, .nil, _ => .nil
  | _, _, .cons a b, q => by
    rw [loF, List.all_cons, Bool.and_eq_true] at q
    exact .cons (a.free t q.1) (RFs.free t b q.2)
mutual

theorem RD.shift {ρ ρ' : List Addr} {H : Hp} : ∀ {d : D} {v : V}, RD K G ρ' H d v → RD K G (ρ ++ ρ') H (d.shift ρ.length) v
  | _, _, .non => .non
  | _, _, .bl b => .bl b
  | _, _, .int i => .int i
  | _, _, .str x => .str x
  | _, _, .tup a b => .tup a (RDs.shift b)
  | _, _, .ref e => .ref (by rw [List.getElem?_append_right (Nat.le_add_right _ _), Nat.add_sub_cancel_left]; exact e)
  | _, _, .ty n => .ty n
  | _, _, .rep n => .rep n
  | _, _, .stat e => .stat e
theorem RDs.shift {ρ ρ' : List Addr} {H : Hp} : ∀ {d : List D} {v : List V}, RDs K G ρ' H d v → RDs K G (ρ ++ ρ') H (D.shifts ρ.length d) v
  | _, _, .nil => .nil
  | _, _, .cons a b => .cons (RD.shift a) (RDs.shift b)
end
theorem RFs.shift {κ : Type} {ρ ρ' : List Addr} {H : Hp} : ∀ {d : List (κ × D)} {v : List (κ × V)}, RFs K G ρ' H d v → RFs K G (ρ ++ ρ') H (shiftF ρ.length d) v
  | _, _, .nil => .nil
  | _, _, .cons a b => .cons a.shift (RFs.shift b)
mutual
theorem nk_shift (n : Nat) : ∀ {d : D} {k : NestedKey}, nk d = some k → d.shift n = d
  | .non, _, e => rfl
  | .int i, _, e => rfl
  | .tup xs, _, e => by
    rw [nk, Option.map_eq_some_iff] at e
    obtain ⟨ks, e1, rfl⟩ := e
    rw [D.shift, nks_shift n e1]
  | .bl _, _, e => nomatch e
  | .str _, _, e => nomatch e
  | .ref _, _, e => nomatch e
  | .ty _, _, e => nomatch e
  | .stat _, _, e => nomatch e
  | .rep _, _, e => nomatch e
theorem nks_shift (n : Nat) : ∀ {xs : List D} {ks : List NestedKey}, nks xs = some ks → D.shifts n xs = xs
  | [], _, e => rfl
  | x :: xs, _, e => by
    rw [nks] at e
    cases e1 : nk x with
    | none => rw [e1] at e; cases e
    | some k =>
      rw [e1] at e
      simp only [Option.map_eq_some_iff] at e
      obtain ⟨ks, e2, rfl⟩ := e
      rw [D.shifts, nk_shift n e1, nks_shift n e2]
end
theorem RKs.shift {ρ ρ' : List Addr} {H : Hp} : ∀ {d : List (D × D)} {v : List (NestedKey × Addr × V)}, RKs K G ρ' H d v → RKs K G (ρ ++ ρ') H (shiftF ρ.length d) v
  | _, _, .nil => .nil
  | _, _, .cons e a b c => .cons e (by have := a.shift (ρ := ρ); rwa [nk_shift _ e] at this) b.shift (RKs.shift c)
theorem shiftF_look {k : Nat} {f : Str} {ds : List D} : ∀ {fs : List (Str × D)}, (shiftF k fs).lookup f = some (.tup ds) → ∃ es, fs.lookup f = some (.tup es)
  | [], e => by cases e
  | (g, d) :: fs, e => by
    have e' : (if f = g then some (d.shift k) else (shiftF k fs).lookup f) = some (.tup ds) := by
      rw [← e]
      show _ = List.lookup f ((g, d.shift k) :: shiftF k fs)
      rw [List.lookup_cons]
      by_cases h : f = g
      · rw [if_pos h, h, beq_self_eq_true]
      · rw [if_neg h, beq_false_of_ne h]
    rw [List.lookup_cons]
    by_cases h : f = g
    · rw [if_pos h] at e'
      rw [h, beq_self_eq_true]
      cases d with
      | tup es => exact ⟨es, rfl⟩
      | _ => injection e' with e'; simp [D.shift] at e'
    · rw [if_neg h] at e'
      rw [beq_false_of_ne h]
      exact shiftF_look e'
theorem NdF.shift {H : Hp} {k : Nat} {fs : List (Str × D)} {vs : List (Str × V)} (h : NdF K H fs vs) : NdF K H (shiftF k fs) vs := fun ds v e0 e => let ⟨es, q⟩ := shiftF_look e0; h es v q e
theorem RO.shift {ρ ρ' : List Addr} {H : Hp} {a : Addr} {o : O} (r : RO K G ρ' H a o) : RO K G (ρ ++ ρ') H a (o.shift ρ.length) := by
  cases o with
  | lst ds => obtain ⟨xs, e, z⟩ := r; exact ⟨xs, e, z.shift⟩
  | ro ds => obtain ⟨o, xs, e, z⟩ := r; exact ⟨o, xs, e, z.shift⟩
  | kl ds => obtain ⟨xs, e, z⟩ := r; exact ⟨xs, e, z.shift⟩
  | ins C fs => obtain ⟨c, dx, vs, e0, e, z, nd⟩ := r; exact ⟨c, dx, vs, e0, e, z.shift, nd.shift⟩
  | dct ks => obtain ⟨vs, e, z⟩ := r; exact ⟨vs, e, z.shift⟩
  | rct ks => obtain ⟨o, vs, e, z⟩ := r; exact ⟨o, vs, e, z.shift⟩
  | dt ks => obtain ⟨vs, e, y, z⟩ := r; exact ⟨vs, e, y, z.shift⟩
  | rdt ks => obtain ⟨o, vs, e, y, z⟩ := r; exact ⟨o, vs, e, y, z.shift⟩
theorem shift_isK (k : Nat) (o : O) : (o.shift k).isK = o.isK := by cases o <;> rfl
theorem objs_len (h : MH) : ∀ n, (h.objs n).length = n
  | 0 => rfl
  | n + 1 => by rw [MH.objs, List.length_append, objs_len h n]; rfl
theorem objs_get (h : MH) : ∀ (n i : Nat), i < n → (h.objs n)[i]? = some ((h.get i).getD (.lst []))
  | n + 1, i, hi => by
    rw [MH.objs]
    by_cases e : i = n
    · subst e
      rw [List.getElem?_append_right (by rw [objs_len]; exact Nat.le_refl _), objs_len, Nat.sub_self]
      rfl
    · rw [List.getElem?_append_left (by rw [objs_len]; omega)]
      exact objs_get h n i (by omega)
theorem more_n (k : Nat) : ∀ (os : List O) (h : MH), (h.more k os).n = h.n + os.length
  | [], h => rfl
  | o :: os, h => by
    show ((h.add (o.shift k)).more k os).n = _
    rw [more_n k os]
    simp
    omega
theorem more_get (k : Nat) : ∀ (os : List O) (h : MH) (j : Nat), (h.more k os).get j = if j < h.n then h.get j else if j - h.n < os.length then (os[j - h.n]?).map (O.shift k) else h.get j
  | [], h, j => by simp [MH.more]
  | o :: os, h, j => by
    show ((h.add (o.shift k)).more k os).get j = _
    rw [more_get k os, MH.n_add]
    by_cases h1 : j < h.n
    · rw [if_pos h1, if_pos (by omega), MH.get_add_ne _ _ (by omega)]
    · rw [if_neg h1]
      by_cases h2 : j = h.n
      · subst h2
        rw [if_pos (by omega), Nat.sub_self, if_pos (by simp)]
        simp
      · rw [if_neg (by omega)]
        by_cases h3 : j - h.n < (o :: os).length
        · rw [if_pos h3, if_pos (by simp at h3; omega)]
          rw [show j - h.n = (j - (h.n + 1)) + 1 by omega, List.getElem?_cons_succ]
        · rw [if_neg h3, if_neg (by simp at h3; omega), MH.get_add_ne _ _ h2]
/-- two memories of one heap, what the second one names being new -/
theorem Rel.both {ρ ρ' : List Addr} {H H' : Hp} {h h2 : MH} (r : Rel K G ρ h H) (fr : ∀ a o, H a = some o → H' a = some o) (tp : ∀ a xs, SqT K H a xs → SqT K H' a xs) (r2 : Rel K G ρ' h2 H') (new : ∀ p ∈ ρ', H p = none) :
    Fut K ρ H (ρ ++ ρ') H' ∧ Rel K G (ρ ++ ρ') (h.more h.n (h2.objs h2.n)) H' := by
  have f0 : Fut K ρ H ρ H' := ⟨⟨[], by simp, by simp⟩, tp, fun a o q _ => fr a o q, (fun a q => by
    cases e : H a with
    | none => rfl
    | some o => rw [fr a o e] at q; cases q), (fun a fs q => fr a _ q), fun a _ _ q => fr a _ q⟩
  have f : Fut K ρ H (ρ ++ ρ') H' := ⟨⟨ρ', rfl, new⟩, tp, f0.fr, f0.keep, f0.xd, f0.frz⟩
  have get : ∀ i o, (h.more h.n (h2.objs h2.n)).get i = some o → (i < h.n ∧ h.get i = some o) ∨ (h.n ≤ i ∧ ∃ u, h2.get (i - h.n) = some u ∧ o = u.shift h.n) := fun i o e => by
    rw [more_get, objs_len] at e
    by_cases h1 : i < h.n
    · rw [if_pos h1] at e; exact .inl ⟨h1, e⟩
    · rw [if_neg h1] at e
      by_cases h3 : i - h.n < h2.n
      · rw [if_pos h3, objs_get _ _ _ h3] at e
        obtain ⟨u, hu⟩ := r2.full (i - h.n) (ρ'[i - h.n]'(by rw [r2.len]; exact h3)) (by simp)
        rw [hu] at e
        cases e
        exact .inr ⟨by omega, u, hu, rfl⟩
      · rw [if_neg h3] at e
        exact absurd (r.lt e) h1
  have nk : ∀ {i a o}, h.get i = some o → o.isK = false → ρ[i]? = some a → a ∉ ρ' := fun {i a o} g k e z => r.ne g k e (new a z) rfl
  refine ⟨f, by simp [r.len, more_n, objs_len, r2.len], fun i o e => ?_, fun i a e => ?_, fun i j a o u g1 g2 k1 k2 e1 e2 => ?_⟩
  · rcases get i o e with ⟨hi, g⟩ | ⟨hi, u, g, rfl⟩
    · obtain ⟨a, q, ro⟩ := r.ob i o g
      obtain ⟨w, hw⟩ : ∃ w, H a = some w ∨ o.isK = true := by
        cases ek : o.isK with
        | true => exact ⟨.lst [], .inr rfl⟩
        | false => obtain ⟨w, hw⟩ := ro.some ek; exact ⟨w, .inl hw⟩
      refine ⟨a, f.at q, ro.fut f fun k => ?_⟩
      rcases hw with hw | hw
      · rw [hw]; exact fr a w hw
      · rw [k] at hw; cases hw
    · obtain ⟨a, q, ro⟩ := r2.ob _ u g
      have s := RO.shift (ρ := ρ) ro
      rw [r.len] at s
      exact ⟨a, by rw [List.getElem?_append_right (by rw [r.len]; exact hi), r.len]; exact q, s⟩
  · rw [more_get, objs_len]
    by_cases h1 : i < h.n
    · rw [if_pos h1]
      exact r.full i (ρ[i]'(by rw [r.len]; exact h1)) (by simp)
    · rw [if_neg h1]
      have hl := (List.getElem?_eq_some_iff.mp e).1
      rw [List.length_append, r.len, r2.len] at hl
      rw [if_pos (by omega), objs_get _ _ _ (by omega)]
      exact ⟨_, rfl⟩
  · have side : ∀ {i a}, (ρ ++ ρ')[i]? = some a → h.n ≤ i → ρ'[i - h.n]? = some a := fun {i a} e hi => by
      rw [List.getElem?_append_right (by rw [r.len]; exact hi), r.len] at e
      exact e
    have side' : ∀ {i a}, (ρ ++ ρ')[i]? = some a → i < h.n → ρ[i]? = some a := fun {i a} e hi => by
      rw [List.getElem?_append_left (by rw [r.len]; exact hi)] at e
      exact e
    rcases get i o g1 with ⟨hi, g⟩ | ⟨hi, w, g, rfl⟩
    · rcases get j u g2 with ⟨hj, g'⟩ | ⟨hj, w', g', rfl⟩
      · exact r.inj i j a o u g g' k1 k2 (side' e1 hi) (side' e2 hj)
      · exact absurd (List.mem_of_getElem? (side e2 hj)) (nk g k1 (side' e1 hi))
    · rcases get j u g2 with ⟨hj, g'⟩ | ⟨hj, w', g', rfl⟩
      · exact absurd (List.mem_of_getElem? (side e1 hi)) (nk g' k2 (side' e2 hj))
      · rw [shift_isK] at k1 k2
        have := r2.inj _ _ a _ _ g g' k1 k2 (side e1 hi) (side e2 hj)
        omega
theorem FnG.loc {fm : Fn} (F : FnG P w K mg base k f fd ps (spM K G n fm)) : FnG P w K mg base k f fd ps (spM K G n (loc fm)) := by
  refine F.imp fun vs H Q E q => ?_
  obtain ⟨ρ, h, ds, r, rd, hl, w⟩ := q
  unfold MM.loc at w
  cases el : D.los 0 ds with
  | false => rw [el] at w; exact w.elim
  | true =>
    rw [el] at w
    simp only [cond_true] at w
    refine ⟨[], MH.nil, ds, Rel.empty, rd.free (fun _ _ q => q) el, hl, ?_⟩
    cases em : fm ds MH.nil with
    | bad => rw [em] at w; exact w.elim
    | ok v h2 =>
      rw [em] at w
      intro ρ' H' v' f' r' q'
      obtain ⟨t, rfl, ht⟩ := f'.pre
      have fr : ∀ a o, H a = some o → H' a = some o := fun a o q => f'.fr a o q (by simp)
      obtain ⟨fb, rb⟩ := r.both fr f'.tup r' fun p hp => ht p (by simpa using hp)
      simp only at w
      cases ev : v.lo 0 with
      | false =>
        rw [ev] at w
        refine w _ H' v' fb rb ?_
        have s := RD.shift (ρ := ρ) q'
        rw [r.len] at s
        exact s
      | true =>
        rw [ev] at w
        have f0 : Fut K ρ H ρ H' := ⟨⟨[], by simp, by simp⟩, f'.tup, fun a o q _ => fr a o q, fb.keep, (fun a fs q => fr a _ q), fun a _ _ q => fr a _ q⟩
        refine w ρ H' v' f0 ⟨r.len, fun i o e => ?_, r.full, r.inj⟩ (q'.free (fun _ _ q => q) ev)
        obtain ⟨a, e1, ro⟩ := r.ob i o e
        refine ⟨a, e1, ro.fut f0 fun k => ?_⟩
        obtain ⟨u, hu⟩ := ro.some k
        rw [hu]; exact fr a u hu
    | exc C fs h2 =>
      rw [em] at w
      simp only at w
      cases ev : loF 0 fs with
      | false => rw [ev] at w; exact w.elim
      | true =>
        rw [ev] at w
        intro ρ' H' c d eg f' r' hx
        have fr : ∀ a o, H a = some o → H' a = some o := fun a o q => f'.fr a o q (by simp)
        have f0 : Fut K ρ H ρ H' := ⟨⟨[], by simp, by simp⟩, f'.tup, fun a o q _ => fr a o q, f'.keep, (fun a fs q => fr a _ q), fun a _ _ q => fr a _ q⟩
        refine w ρ H' c d eg f0 ⟨r.len, fun i o e => ?_, r.full, r.inj⟩ (hx.imp id fun ⟨dd, vs, e1, e2, hf⟩ => ⟨dd, vs, e1, e2, hf.free (fun _ _ q => q) ev⟩)
        obtain ⟨a, e1, ro⟩ := r.ob i o e
        refine ⟨a, e1, ro.fut f0 fun k => ?_⟩
        obtain ⟨u, hu⟩ := ro.some k
        rw [hu]; exact fr a u hu
end
/-! ### loops -/
/-- a comprehension's loop, by what holds between two turns -/
theorem lcL_spec {it : MI} {t : Tg} {tt : Mt} {te : Mx} {env : ME} {L : Nat} (I : Nat → List D → MH → Prop) {acc0 : List D} {h0 : MH} (s0 : I 0 acc0 h0)
    (step : ∀ k acc h, k < it.n → I k acc h → ∃ d e1, it.at h k = some d ∧ asg h t d env = some e1 ∧ ((∃ h2, tt e1 h = .ok false h2 ∧ I (k + 1) acc h2) ∨
      ∃ h2 y h3, tt e1 h = .ok true h2 ∧ te e1 h2 = .ok y h3 ∧ h3.get L = some (.lst acc) ∧ acc.length < sizeLine ∧ I (k + 1) (acc ++ [y]) (h3.set L (.lst (acc ++ [y])))))
    (fin : ∀ acc h, I it.n acc h → it.fin h = true) : ∃ acc h, lcL it t tt te env L it.n 0 h0 = some h ∧ I it.n acc h := by
  have go : ∀ (r k : Nat) (acc : List D) (h : MH), k + r = it.n → I k acc h → ∃ acc' h', lcL it t tt te env L r k h = some h' ∧ I it.n acc' h' := by
    intro r
    induction r with
    | zero =>
      intro k acc h e q
      have : k = it.n := by omega
      subst this
      exact ⟨acc, h, by rw [lcL, if_pos (fin acc h q)], q⟩
    | succ r ih =>
      intro k acc h e q
      obtain ⟨d, e1, h1, h2, z⟩ := step k acc h (by omega) q
      rw [lcL, h1]
      simp only [h2]
      rcases z with ⟨h2', e2, q2⟩ | ⟨h2', y, h3, e2, e3, e4, e5, q2⟩
      · rw [e2]
        exact ih (k + 1) acc h2' (by omega) q2
      · rw [e2]
        simp only [e3, pushD, e4, if_pos e5]
        exact ih (k + 1) _ _ (by omega) q2
  exact go it.n 0 acc0 h0 (by omega) s0
/-- a for, whose body always comes to its end -/
theorem forL_spec {it : MI} {t : Tg} {body : Ms} (I : Nat → ME → MH → Prop) {e0 : ME} {h0 : MH} (s0 : I 0 e0 h0)
    (step : ∀ k env h, k < it.n → I k env h → ∃ d e1, it.at h k = some d ∧ asg h t d env = some e1 ∧ ((∃ e2 h2, body e1 h = .nx e2 h2 ∧ I (k + 1) e2 h2) ∨ ∃ e2 h2, body e1 h = .ct e2 h2 ∧ I (k + 1) e2 h2))
    (fin : ∀ env h, I it.n env h → it.fin h = true) : ∃ e h, forL it t body it.n 0 e0 h0 = .nx e h ∧ I it.n e h := by
  have go : ∀ (r k : Nat) (env : ME) (h : MH), k + r = it.n → I k env h → ∃ e' h', forL it t body r k env h = .nx e' h' ∧ I it.n e' h' := by
    intro r
    induction r with
    | zero =>
      intro k env h e q
      have : k = it.n := by omega
      subst this
      exact ⟨env, h, by rw [forL, if_pos (fin env h q)], q⟩
    | succ r ih =>
      intro k env h e q
      obtain ⟨d, e1, h1, h2, z⟩ := step k env h (by omega) q
      rw [forL, h1]
      simp only [h2]
      rcases z with ⟨e2, h2', e2', q2⟩ | ⟨e2, h2', e2', q2⟩
      · rw [e2']
        exact ih (k + 1) e2 h2' (by omega) q2
      · rw [e2']
        exact ih (k + 1) e2 h2' (by omega) q2
  exact go it.n 0 e0 h0 (by omega) s0
end MM
namespace MM
open PySem PySem.Spec PyProof.Rows L2
/-- where the one says nothing, the other -/
def alt (f g : Fn) : Fn := fun ds h => match f ds h with
  | .bad => g ds h
  | .ok v h' => .ok v h'
  | .exc C fs h' => .exc C fs h'
theorem FnG.alt {P : Program} {w : World} {K : PySem.W.Frag} {mg : Str → Option Value} {base : Heap} {G : Nat → Option Addr} {k n : Nat} {f : Addr} {fd : FuncData} {ps : List Str} {fm fm' : Fn}
    (F : FnG P w K mg base k f fd ps (spM K G n fm)) (F' : FnG P w K mg base k f fd ps (spM K G n fm')) : FnG P w K mg base k f fd ps (spM K G n (alt fm fm')) := by
  have each : ∀ vs H Q E, spM K G n (MM.alt fm fm') vs H Q E → spM K G n fm vs H Q E ∨ spM K G n fm' vs H Q E := fun vs H Q E q => by
    obtain ⟨ρ, h, ds, r, rd, hl, w⟩ := q
    unfold MM.alt at w
    cases e : fm ds h with
    | bad => rw [e] at w; exact .inr ⟨ρ, h, ds, r, rd, hl, w⟩
    | ok v h' => rw [e] at w; exact .inl ⟨ρ, h, ds, r, rd, hl, by rw [e]; exact w⟩
    | exc C fs h' => rw [e] at w; exact .inl ⟨ρ, h, ds, r, rd, hl, by rw [e]; exact w⟩
  refine ⟨fun vs H Q E q => ?_, fun A outer s H args us vs Q E hr hg e0 hb r q => ?_⟩
  · rcases each vs H Q E q with q | q
    · exact F.len _ _ _ _ q
    · exact F'.len _ _ _ _ q
  · rcases each vs H Q E q with q | q
    · exact F.run A outer s H args us vs Q E hr hg e0 hb r q
    · exact F'.run A outer s H args us vs Q E hr hg e0 hb r q
end MM
namespace MM
open PySem PySem.Spec PyProof.Rows L2
/-- a def of one, of two places that says k of every list in its last place -/
def lstF1 (k : Bool) : Fn := fun ds h => match ds with
  | [.ref i] => match h.get i with
    | some (.lst _) => .ok (.bl k) h
    | _ => .bad
  | _ => .bad
def lstF2 (k : Bool) : Fn := fun ds h => match ds with
  | [_, .ref i] => match h.get i with
    | some (.lst _) => .ok (.bl k) h
    | _ => .bad
  | _ => .bad
theorem Sub.self {h : MH} (w1 : ∀ (i : Nat) (o : O), h.get i = some o → i < h.n ∧ o.lo h.n = true) (w2 : ∀ i, i < h.n → ∃ o, h.get i = some o) : Sub h h := ⟨Nat.le_refl _, fun i o e => ⟨(w1 i o e).1, e, (w1 i o e).2⟩, w2⟩
theorem lstF1_ok {k : Bool} {ds : List D} {h h' : MH} {v : D} (e : lstF1 k ds h = .ok v h') : v = .bl k ∧ h' = h ∧ ∃ i xs, ds = [.ref i] ∧ h.get i = some (.lst xs) := by
  unfold lstF1 at e
  split at e
  · split at e
    · rename_i g
      cases e
      exact ⟨rfl, rfl, _, _, rfl, g⟩
    · cases e
  · cases e
theorem lstF2_ok {k : Bool} {ds : List D} {h h' : MH} {v : D} (e : lstF2 k ds h = .ok v h') : v = .bl k ∧ h' = h ∧ ∃ a i xs, ds = [a, .ref i] ∧ h.get i = some (.lst xs) := by
  unfold lstF2 at e
  split at e
  · split at e
    · rename_i g
      cases e
      exact ⟨rfl, rfl, _, _, _, rfl, g⟩
    · cases e
  · cases e
theorem lstF1_exc {k : Bool} {ds : List D} {h h' : MH} {C : Nat} {fs : List (Str × D)} : lstF1 k ds h ≠ .exc C fs h' := by
  intro e
  unfold lstF1 at e
  split at e
  · split at e <;> cases e
  · cases e
theorem lstF2_exc {k : Bool} {ds : List D} {h h' : MH} {C : Nat} {fs : List (Str × D)} : lstF2 k ds h ≠ .exc C fs h' := by
  intro e
  unfold lstF2 at e
  split at e
  · split at e <;> cases e
  · cases e
theorem refLst1 {k : Bool} {f : Fn} (hg : ∀ i h xs, h.get i = some (.lst xs) → f [.ref i] h = .ok (.bl k) h) : Ref (lstF1 k) f := by
  intro ds h
  cases e : lstF1 k ds h with
  | bad => trivial
  | exc C fs h' => exact absurd e lstF1_exc
  | ok v h' =>
    intro w1 w2 w3
    obtain ⟨rfl, rfl, i, xs, rfl, g⟩ := lstF1_ok e
    exact ⟨h', hg _ _ _ g, Nat.le_refl _, .self w1 w2, rfl⟩
theorem refLst2 {k : Bool} {f : Fn} (hf : ∀ a i h xs, h.get i = some (.lst xs) → f [a, .ref i] h = .ok (.bl k) h) : Ref (lstF2 k) f := by
  intro ds h
  cases e : lstF2 k ds h with
  | bad => trivial
  | exc C fs h' => exact absurd e lstF2_exc
  | ok v h' =>
    intro w1 w2 w3
    obtain ⟨rfl, rfl, a, i, xs, rfl, g⟩ := lstF2_ok e
    exact ⟨h', hf _ _ _ _ g, Nat.le_refl _, .self w1 w2, rfl⟩
end MM

set_option Elab.async false
set_option linter.all false
set_option maxRecDepth 100000
set_option maxHeartbeats 4000000
set_option autoImplicit false
/-! dicts of ints and texts; list.pop -/
namespace MM
open PySem PySem.Spec PyProof.Rows L2
/-! ### keys, pairs -/
def dkey : D → Option Key
  | .int i => some (.inl i)
  | .str x => some (.inr x)
  | _ => none
def valD (kvs : List (Key × D)) (k : Key) : Option D := (kvs.find? fun kv => decide (kv.1 = k)).map (·.2)
def putD (kvs : List (Key × D)) (k : Key) (v : D) : List (Key × D) :=
  if (kvs.any fun kv => decide (kv.1 = k)) = true then kvs.map (fun kv => if kv.1 = k then (kv.1, v) else kv) else kvs ++ [(k, v)]
def mergeD (kvs more : List (Key × D)) : List (Key × D) := more.foldl (fun acc kv => putD acc kv.1 kv.2) kvs
section
variable {K : PySem.W.Frag} {G : Nat → Option Addr} {ρ : List Addr} {H : Hp}
theorem dkey_v {d : D} {v : V} {k : Key} (r : RD K G ρ H d v) (e : dkey d = some k) : v = kV k := by
  cases r <;> first | (cases e; rfl) | cases e
theorem RFs.val {ds : List (Key × D)} {vs : List (Key × V)} (r : RFs K G ρ H ds vs) (k : Key) : (∀ d, valD ds k = some d → ∃ v, valV vs k = some v ∧ RD K G ρ H d v) ∧ (valD ds k = none → valV vs k = none) := by
  induction r with
  | nil => exact ⟨fun d e => (by cases e), fun _ => rfl⟩
  | @cons f d v ds vs a b ih =>
    by_cases e : f = k
    · have e1 : valD ((f, d) :: ds) k = some d := by simp [valD, e]
      have e2 : valV ((f, v) :: vs) k = some v := valV_pos e
      rw [e1, e2]
      exact ⟨fun x q => (by cases q; exact ⟨v, rfl, a⟩), fun q => (by cases q)⟩
    · have e1 : valD ((f, d) :: ds) k = valD ds k := by simp [valD, e]
      have e2 : valV ((f, v) :: vs) k = valV vs k := valV_neg e
      rw [e1, e2]
      exact ih
theorem RFs.any {κ : Type} {ds : List (κ × D)} {vs : List (κ × V)} (r : RFs K G ρ H ds vs) (t : κ → Bool) : (ds.any fun kv => t kv.1) = (vs.any fun kv => t kv.1) := by
  induction r with
  | nil => rfl
  | cons a b ih => rw [List.any_cons, List.any_cons, ih]
theorem RFs.len {κ : Type} {ds : List (κ × D)} {vs : List (κ × V)} (r : RFs K G ρ H ds vs) : ds.length = vs.length := by
  induction r with
  | nil => rfl
  | cons a b ih => simp [ih]
theorem RFs.over {ds : List (Key × D)} {vs : List (Key × V)} (r : RFs K G ρ H ds vs) (k : Key) {d : D} {v : V} (q : RD K G ρ H d v) :
    RFs K G ρ H (ds.map fun kv => if kv.1 = k then (kv.1, d) else kv) (vs.map fun kv => if kv.1 = k then (kv.1, v) else kv) := by
  induction r with
  | nil => exact .nil
  | @cons f d' v' ds vs a b ih =>
    rw [List.map_cons, List.map_cons]
    by_cases e : f = k
    · simp only [e, if_true]; exact .cons q ih
    · simp only [e, if_false]; exact .cons a ih
theorem RFs.snoc {ds : List (Key × D)} {vs : List (Key × V)} (r : RFs K G ρ H ds vs) (k : Key) {d : D} {v : V} (q : RD K G ρ H d v) : RFs K G ρ H (ds ++ [(k, d)]) (vs ++ [(k, v)]) := by
  induction r with
  | nil => exact .cons q .nil
  | cons a b ih => exact .cons a ih
theorem RFs.put {ds : List (Key × D)} {vs : List (Key × V)} (r : RFs K G ρ H ds vs) (k : Key) {d : D} {v : V} (q : RD K G ρ H d v) : RFs K G ρ H (putD ds k d) (putK vs k v) := by
  unfold putD putK
  rw [r.any fun x => decide (x = k)]
  split
  · exact r.over k q
  · exact r.snoc k q
theorem RFs.merge {ds ms : List (Key × D)} {vs ns : List (Key × V)} (r : RFs K G ρ H ds vs) (m : RFs K G ρ H ms ns) : RFs K G ρ H (mergeD ds ms) (mergeK vs ns) := by
  induction m generalizing ds vs with
  | nil => exact r
  | cons a b ih => exact ih (r.put _ a)
end
/-! ### a display -/
def ePs : List (Mx × Mx) → ME → MH → Res (List (D × D))
  | [], _, h => .ok [] h
  | (a, b) :: r, env, h => (a env h).bind fun x h1 => (b env h1).bind fun y h2 => (ePs r env h2).bind fun ps h3 => .ok ((x, y) :: ps) h3
def keysD : List (D × D) → Option (List (Key × D))
  | [] => some []
  | (x, y) :: r => match dkey x, keysD r with
    | some k, some ks => some ((k, y) :: ks)
    | _, _ => none
def putDct (i : Nat) (qs : List (D × D)) (h : MH) : Option (D × MH) := match keysD qs with
  | some kvs => if kvs.length ≤ 15 then match h.get i with
    | some (.dct []) => some (.ref i, h.set i (.dct (mergeD [] kvs)))
    | _ => none else none
  | none => none
def eDct (ps : List (Mx × Mx)) : Mx := fun env h => (ePs ps env (h.add (.dct []))).bind fun qs h2 => ofOpt (putDct h.n qs h2)
inductive RPs (K : PySem.W.Frag) (G : Nat → Option Addr) (ρ : List Addr) (H : Hp) : List (D × D) → List (V × V) → Prop
  | nil : RPs K G ρ H [] []
  | cons {x y : D} {u v : V} {ds : List (D × D)} {vs : List (V × V)} : RD K G ρ H x u → RD K G ρ H y v → RPs K G ρ H ds vs → RPs K G ρ H ((x, y) :: ds) ((u, v) :: vs)
section
variable {X : Cx} {G : Nat → Option Addr} {K : PySem.W.Frag} {ρ : List Addr} {H : Hp} {W : WX} {e a b c : Expr} {es : List Expr} {pos : Pos}
theorem RPs.keys : ∀ {ds : List (D × D)} {vs : List (V × V)} {ks : List (Key × D)}, RPs K G ρ H ds vs → keysD ds = some ks → ∃ kvs : List (Key × V), vs = kvs.map (fun kv => (kV kv.1, kv.2)) ∧ RFs K G ρ H ks kvs
  | _, _, _, .nil, e => by cases e; exact ⟨[], rfl, .nil⟩
  | _, _, ks, .cons r s t, e => by
    unfold keysD at e
    split at e
    · rename_i k ks' e1 e2
      cases e
      obtain ⟨kvs, rfl, q⟩ := RPs.keys t e2
      exact ⟨(k, _) :: kvs, by rw [List.map_cons, dkey_v r e1], .cons s q⟩
    · cases e
theorem rd_pairs : ∀ (ps : List (Mx × Mx)) {σ : L2.St} {ρ : List Addr} {H : Hp} {h : MH} {env : ME} {Q : List (V × V) → Hp → Prop}, Rel X.K G ρ h H → REnv X.K G ρ H env σ → Wp X.K G (RPs X.K G) ρ H (ePs ps env h) Q (fun c d H' => W c d σ H') →
    tPairs (ps.map fun p => (RdE X.K G W p.1, RdE X.K G W p.2)) σ H Q
  | [], σ, ρ, H, h, env, Q, r, re, w => w.ret r .nil
  | (a, b) :: ps, σ, ρ, H, h, env, Q, r, re, w => by
    refine ⟨ρ, h, env, r, re, Wp.bind w fun x h1 ρ1 H1 vx f1 r1 q1 w1 => ?_⟩
    refine ⟨ρ1, h1, env, r1, re.fut f1, Wp.bind w1 fun y h2 ρ2 H2 vy f2 r2 q2 w2 => ?_⟩
    refine rd_pairs ps r2 ((re.fut f1).fut f2) (Wp.bind w2 fun qs h3 ρ3 H3 vs f3 r3 q3 w3 => ?_)
    exact w3.ret r3 (.cons ((q1.fut f2).fut f3) (q2.fut f3) q3)
theorem me_dct {ps : List (Mx × Mx)} {keys : List (Option Expr)} {values : List Expr} (h : PPs X pos keys values (ps.map fun p => (RdE X.K G W p.1, RdE X.K G W p.2))) (hall : keys.all (·.isSome) = true) (hl : keys.length = values.length) (h0 : keys ≠ [])
    (h15 : keys.length ≤ 15) : PE X (.Dict keys values pos) (RdE X.K G W (eDct ps)) := by
  refine PE.imp (pe_disp h hall hl h0 h15) fun σ H Q q => ?_
  obtain ⟨ρ, h, env, r, re, w⟩ := q
  intro p hp
  have f0 : Fut X.K ρ H (ρ ++ [p]) (upd H p (.dK [])) := Fut.upd hp
  have r0 : Rel X.K G (ρ ++ [p]) (h.add (.dct [])) (upd H p (.dK [])) := r.new hp rfl ⟨[], upd_same, .nil⟩
  refine rd_pairs ps r0 (re.fut f0) (Wp.bind (Wp.fut f0 w) fun qs h2 ρ2 H2 vs f2 r2 q2 w2 => ?_)
  obtain ⟨v, h', e, k⟩ := w2.opt
  unfold putDct at e
  split at e
  · rename_i kvs ek
    split at e
    · rename_i h15'
      split at e
      · rename_i g
        cases e
        obtain ⟨kvv, rfl, rf⟩ := q2.keys ek
        have at2 : ρ2[h.n]? = some p := f2.at (by rw [← r.len]; simp)
        obtain ⟨a2, e2, vs2, g2, z2⟩ := r2.ob _ _ g
        rw [at2] at e2; cases e2
        cases z2
        refine ⟨g2, kvv, rfl, by rw [← rf.len]; exact h15', ?_⟩
        have fu : Fut X.K ρ2 H2 ρ2 (upd H2 p (.dK (mergeK [] kvv))) := Fut.updS at2 (by rw [g2]; exact .dK _)
        have mr : RFs X.K G ρ2 H2 (mergeD [] kvs) (mergeK [] kvv) := RFs.merge .nil rf
        exact k ρ2 _ _ fu (r2.set g rfl rfl at2 (by rw [g2]; exact .dK _) ⟨_, upd_same, mr.fut fu⟩) (.ref at2)
      · cases e
    · cases e
  · cases e
/-! ### d[k], d.get(k, x) -/
def dgetD (a b : D) (h : MH) : Option (D × MH) := match a with
  | .ref i => match h.get i with
    | some (.dct kvs) => match dkey b with
      | some k => keep h (valD kvs k)
      | none => none
    | _ => none
  | _ => none
def ixD2 (a b : D) (h : MH) : Option (D × MH) := match ixD a b h with
  | some r => some r
  | none => dgetD a b h
theorem dget_v {h : MH} {x y d : D} {v : V} {u : V} {h' : MH} (R : Rel K G ρ h H) (rx : RD K G ρ H x v) (ry : RD K G ρ H y u) (e : dgetD x y h = some (d, h')) : h' = h ∧ ∃ a w, v = .ref a ∧ DGet H a u (some w) ∧ RD K G ρ H d w := by
  unfold dgetD at e
  split at e
  · split at e
    · rename_i i kvs g
      split at e
      · rename_i k ek
        obtain ⟨e1, rfl⟩ := keep_eq e
        obtain ⟨a, ea, vs, g2, z⟩ := R.ob _ _ g
        cases rx with
        | ref ha =>
          rw [ha] at ea; cases ea
          obtain ⟨w, e2, rw'⟩ := (z.val k).1 _ e1
          have := dkey_v ry ek
          subst this
          exact ⟨rfl, _, w, rfl, by rw [← e2]; exact .k g2, rw'⟩
      · cases e
    · cases e
  · cases e
theorem PE.or {t t' : TE} (p : PE X e t) (p' : PE X e t') : PE X e (fun σ H Q => t σ H Q ∨ t' σ H Q) := ⟨fun pins s σ H Q I q => q.elim (p.run pins s σ H Q I) (p'.run pins s σ H Q I)⟩
theorem me_ix2 {ma mb : Mx} (hu : X.A.units + 1 < cLine) (ha : PE X a (RdE X.K G W ma)) (hb : PE X b (RdE X.K G W mb)) (hs : PlainIx b := by exact fun _ _ => rfl) (hs2 : NoSl b := by exact fun _ _ => rfl) : PE X (.Subscript a b pos) (RdE X.K G W (eOp ixD2 ma mb)) := by
  refine PE.imp (PE.or (me_ix ha hb hs) (pe_dget hu ha hb hs2)) fun σ H Q q => ?_
  obtain ⟨ρ, h, env, r, re, w⟩ := q
  unfold eOp at w
  cases e1 : ma env h with
  | bad => rw [e1] at w; exact w.elim
  | exc C fs h1 => rw [e1] at w; exact .inl ⟨ρ, h, env, r, re, by unfold eOp; rw [e1]; exact w⟩
  | ok x h1 =>
    cases e2 : mb env h1 with
    | bad => rw [e1] at w; simp only [Res.bind, e2] at w; exact w.elim
    | exc C fs h2 => rw [e1] at w; simp only [Res.bind, e2] at w; exact .inl ⟨ρ, h, env, r, re, by unfold eOp; rw [e1]; simp only [Res.bind, e2]; exact w⟩
    | ok y h2 =>
      have w' := w
      rw [e1] at w'
      simp only [Res.bind, e2] at w'
      cases e3 : ixD x y h2 with
      | some p =>
        refine .inl ⟨ρ, h, env, r, re, ?_⟩
        unfold eOp
        rw [e1]
        simp only [Res.bind, e2, e3]
        unfold ixD2 at w'
        rw [e3] at w'
        exact w'
      | none =>
        refine .inr ⟨ρ, h, env, r, re, ?_⟩
        rw [e1]
        intro ρ1 H1 vx f1 r1 q1
        refine ⟨ρ1, h1, env, r1, re.fut f1, ?_⟩
        rw [e2]
        intro ρ2 H2 vy f2 r2 q2
        obtain ⟨d, h', e, k⟩ := (Wp.fut (f1.trans f2) w').opt
        unfold ixD2 at e
        rw [e3] at e
        obtain ⟨rfl, a, v, ea, g, rd⟩ := dget_v r2 (q1.fut f2) q2 e
        exact ⟨a, v, ea, g, k ρ2 H2 v .refl r2 rd⟩
def isDct (h : MH) (x : D) : Bool := match x with
  | .ref i => match h.get i with
    | some (.dct _) => true
    | _ => false
  | _ => false
def get2D (a b z : D) (h : MH) : Option (D × MH) := match a with
  | .ref i => match h.get i with
    | some (.dct kvs) => match dkey b with
      | some k => some ((valD kvs k).getD z, h)
      | none => none
    | _ => none
  | _ => none
def eGet2 (m mk mz : Mx) : Mx := fun env h => (m env h).bind fun x h1 => bif isDct h1 x then (mk env h1).bind fun y h2 => (mz env h2).bind fun z h3 => ofOpt (get2D x y z h3) else .bad
theorem me_get2 {o f : Expr} {apos cpos : Pos} {m mk mz : Mx} (hu : X.A.units + 1 < cLine) (ho : PE X o (RdE X.K G W m)) (he : PE X e (RdE X.K G W mk)) (hf : PE X f (RdE X.K G W mz)) (hm : M2 X o "get" apos e f cpos) :
    PE X (.Call (.Attribute o "get" apos) [e, f] [] cpos) (RdE X.K G W (eGet2 m mk mz)) := by
  refine PE.imp (pe_dget2 hu ho he hf hm) fun σ H Q q => ?_
  obtain ⟨ρ, h, env, r, re, w⟩ := q
  refine ⟨ρ, h, env, r, re, Wp.bind w fun x h1 ρ1 H1 vx f1 r1 q1 w1 => ?_⟩
  cases ei : isDct h1 x with
  | false => rw [ei] at w1; exact w1.elim
  | true =>
    rw [ei] at w1
    unfold isDct at ei
    split at ei
    · rename_i i
      split at ei
      · rename_i kvs0 g0
        obtain ⟨a0, ea0, vs0, g20, z0⟩ := r1.ob _ _ g0
        cases q1 with
        | ref ha =>
          rw [ha] at ea0; cases ea0
          refine ⟨_, rfl, .inl ⟨_, .inl g20⟩, ρ1, h1, env, r1, re.fut f1, Wp.bind w1 fun y h2 ρ2 H2 vy f2 r2 q2 w2 => ⟨ρ2, h2, env, r2, (re.fut f1).fut f2, Wp.bind w2 fun z h3 ρ3 H3 vz f3 r3 q3 w3 => ?_⟩⟩
          obtain ⟨d, h', e, k⟩ := w3.opt
          unfold get2D at e
          simp only at e
          split at e
          · rename_i kvs g
            split at e
            · rename_i key ek
              cases e
              obtain ⟨a, ea, vs, g2, zz⟩ := r3.ob _ _ g
              rw [((f2.trans f3).at ha)] at ea; cases ea
              have kk := dkey_v (q2.fut f3) ek
              refine ⟨valV vs key, by rw [kk]; exact .k g2, ?_⟩
              refine k ρ3 H3 _ .refl r3 ?_
              cases ev : valD kvs key with
              | none => rw [(zz.val key).2 ev]; exact q3
              | some x =>
                obtain ⟨w, e2, rw'⟩ := (zz.val key).1 _ ev
                rw [e2]; exact rw'
            · cases e
          · cases e
      · cases ei
    · cases ei
/-! ### list.pop(i) -/
def popAt (h : MH) (L : Nat) (i : Int) : Option (D × MH) := match h.get L with
  | some (.lst xs) => if -(2 ^ 63) ≤ i ∧ i < 2 ^ 63 then match seqIndex? i xs.length with
    | some k => match xs[k]? with
      | some y => some (y, h.set L (.lst (xs.eraseIdx k)))
      | none => none
    | none => none else none
  | _ => none
def popD (x : D) (ds : List D) (h : MH) : Option (D × MH) := match x, ds with
  | .ref i, [.int k] => popAt h i k
  | _, _ => none
def ePop (m : Mx) (ms : Ma) : Mx := fun env h => (m env h).bind fun x h1 => bif isLst h1 x then (ms env h1).bind fun ds h2 => ofOpt (popD x ds h2) else .bad
theorem RDs.erase {ds : List D} {vs : List V} (r : RDs K G ρ H ds vs) : ∀ k : Nat, RDs K G ρ H (ds.eraseIdx k) (vs.eraseIdx k) := by
  intro k
  rw [List.eraseIdx_eq_take_drop_succ, List.eraseIdx_eq_take_drop_succ]
  exact (r.take k).append (r.drop (k + 1))
theorem pop_rd {m : Mx} {ms : Ma} {σ : L2.St} {H : Hp} {Q : VK} (q : RdE X.K G W (ePop m ms) σ H Q) : tBM X.K "list" rPopAt (RdE X.K G W m) (RdA X.K G W ms) σ H Q := by
  obtain ⟨ρ, h, env, r, re, w⟩ := q
  refine ⟨ρ, h, env, r, re, Wp.bind w fun x h1 ρ1 H1 vx f1 r1 q1 w1 => ?_⟩
  cases el : isLst h1 x with
  | false => rw [el] at w1; exact w1.elim
  | true =>
    rw [el] at w1
    refine ⟨?_, ρ1, h1, env, r1, re.fut f1, Wp.bind w1 fun ds h2 ρ2 H2 vs f2 r2 q2 w2 => ?_⟩
    · unfold isLst at el
      split at el
      · rename_i i
        split at el
        · rename_i xs g1
          obtain ⟨a1, ys, p1, p2, p3⟩ := r1.lst g1
          cases q1 with
          | ref ha => rw [ha] at p1; cases p1; exact .inl ⟨rfl, _, .of p2⟩
        · cases el
      · cases el
    · obtain ⟨v, h', ea, k⟩ := w2.opt
      unfold popD at ea
      split at ea
      · rename_i i j
        unfold popAt at ea
        split at ea
        · rename_i xs g1
          split at ea
          · rename_i hb
            split at ea
            · rename_i n en
              split at ea
              · rename_i y ey
                cases ea
                obtain ⟨a1, ys, p1, p2, p3⟩ := r2.lst g1
                have q1' := q1.fut f2
                obtain ⟨vy, e2, ry⟩ := p3.get ey
                cases q2 with
                | cons b1 b2 =>
                  cases b2
                  cases b1
                  cases q1' with
                  | ref ha =>
                    rw [ha] at p1; cases p1
                    obtain ⟨fu, ru⟩ := r2.lset g1 ha p2 (p3.erase n)
                    exact ⟨_, ys, _, n, vy, rfl, rfl, p2, hb.1, hb.2, by rw [← p3.length]; exact en, e2, k _ _ _ fu ru (ry.fut fu)⟩
              · cases ea
            · cases ea
          · cases ea
        · cases ea
      · cases ea
end
theorem hu1 {k : Nat} {A : Around} (r : Room k A) : A.units + 1 < cLine := by have := r.un; omega
theorem me_imp {X : Cx} {e : Expr} {T T' : TE} (hT : ∀ σ H Q, T' σ H Q → T σ H Q) (p : PE X e T) : PE X e T' := PE.imp p hT
end MM

set_option Elab.async false
set_option linter.all false
set_option maxRecDepth 100000
set_option maxHeartbeats 4000000
set_option autoImplicit false
/-! what laws have in common: a feed of draws, plain things, what is shown -/
namespace MM
open PySem PySem.Spec PyProof.Rows L2
/-! ### memories -/
theorem MH.seq_lst {h : MH} {i : Nat} {xs : List D} (e : h.get i = some (.lst xs)) : h.seq i = some xs := by unfold MH.seq; rw [e]
/-- nothing is lost: what was there is there, but for the feed at i -/
structure Fd (i : Nat) (h h' : MH) : Prop where
  le : h.n ≤ h'.n
  ot : ∀ j, j ≠ i → j < h.n → h'.get j = h.get j
  lt : i < h'.n
  fd : ∃ a b, h'.get i = some (.lst [.int a, .int b])
theorem Fd.refl {i : Nat} {h : MH} (l : i < h.n) (f : ∃ a b, h.get i = some (.lst [.int a, .int b])) : Fd i h h := ⟨Nat.le_refl _, fun _ _ _ => rfl, l, f⟩
theorem Fd.trans {i : Nat} {h h' h'' : MH} (f : Fd i h h') (g : Fd i h' h'') : Fd i h h'' := ⟨Nat.le_trans f.le g.le, fun j hj l => (g.ot j hj (Nat.lt_of_lt_of_le l f.le)).trans (f.ot j hj l), g.lt, g.fd⟩
theorem Fd.set {i : Nat} {h : MH} (l : i < h.n) (a b : Int) : Fd i h (h.set i (.lst [.int a, .int b])) := ⟨Nat.le_refl _, fun j hj _ => MH.get_set_ne _ _ hj, l, a, b, MH.get_set_same _ _ _⟩
theorem Fd.self {i : Nat} {h h' : MH} (f : Fd i h h') : Fd i h' h' := .refl f.lt f.fd
theorem Fd.add {i : Nat} {h h' : MH} (f : Fd i h h') (o : O) : Fd i h (h'.add o) := f.trans ⟨by simp, fun j hj l => MH.get_add_ne _ _ (by omega), by have := f.lt; simp; omega, let ⟨a, b, e⟩ := f.fd; ⟨a, b, by rw [MH.get_add_ne _ _ (by have := f.lt; omega)]; exact e⟩⟩
/-- another object than the feed is written -/
theorem Fd.setO {i j : Nat} {h h' : MH} (f : Fd i h h') (hj : j ≠ i) (hn : h.n ≤ j) (o : O) : Fd i h (h'.set j o) := ⟨f.le, fun k hk l => by rw [MH.get_set_ne _ _ (by omega)]; exact f.ot k hk l, f.lt, let ⟨a, b, e⟩ := f.fd; ⟨a, b, by rw [MH.get_set_ne _ _ (Ne.symm hj)]; exact e⟩⟩
/-- nothing is changed, and more may be there -/
structure Ext (h h' : MH) : Prop where
  le : h.n ≤ h'.n
  ot : ∀ j, j < h.n → h'.get j = h.get j
theorem Ext.refl {h : MH} : Ext h h := ⟨Nat.le_refl _, fun _ _ => rfl⟩
theorem Ext.trans {h h' h'' : MH} (f : Ext h h') (g : Ext h' h'') : Ext h h'' := ⟨Nat.le_trans f.le g.le, fun j l => (g.ot j (Nat.lt_of_lt_of_le l f.le)).trans (f.ot j l)⟩
theorem Ext.add {h : MH} (o : O) : Ext h (h.add o) := ⟨by simp, fun j l => MH.get_add_ne _ _ (by omega)⟩
theorem Ext.fd {i : Nat} {h h' h'' : MH} (f : Fd i h h') (g : Ext h' h'') : Fd i h h'' := f.trans ⟨g.le, fun j _ l => g.ot j l, Nat.lt_of_lt_of_le f.lt g.le, let ⟨a, b, e⟩ := f.fd; ⟨a, b, by rw [g.ot _ f.lt]; exact e⟩⟩

/-! ### plain data -/
mutual
/-- nothing great, no object -/
def tame : Nat → D → Bool
  | _, .non => true
  | _, .bl _ => true
  | _, .int i => decide (i.natAbs.log2 < 190)
  | _, .str x => PyData.strOk x && decide ((reprText x).length ≤ 200)
  | f + 1, .tup xs => decide (xs.length ≤ 90) && tames f xs
  | _, _ => false
def tames : Nat → List D → Bool
  | _, [] => true
  | f, x :: xs => tame f x && tames f xs
end
mutual
def plain : D → PyData
  | .bl b => .bool b
  | .int i => .int i
  | .str x => .str x
  | .tup xs => .tuple (plains xs)
  | _ => .none
def plains : List D → List PyData
  | [] => []
  | x :: xs => plain x :: plains xs
end
theorem tames_iff {f : Nat} {xs : List D} : tames f xs = true ↔ ∀ d ∈ xs, tame f d = true := by
  induction xs with
  | nil => simp [tames]
  | cons x xs ih => simp [tames, ih]
theorem plains_len (xs : List D) : (plains xs).length = xs.length := by
  induction xs with
  | nil => rfl
  | cons x xs ih => simp [plains, ih]
def wide : Nat → Nat
  | 0 => 200
  | f + 1 => (wide f + 2) * 90 + 3
mutual
theorem tame_snap {h : MH} : ∀ {f : Nat} {d : D}, tame f d = true → ∀ g, f ≤ g → snap h g d = some (plain d)
  | _, .non, _, g, _ => by cases g <;> rfl
  | _, .bl _, _, g, _ => by cases g <;> rfl
  | _, .int _, _, g, _ => by cases g <;> rfl
  | _, .str _, _, g, _ => by cases g <;> rfl
  | 0, .tup xs, e, _, _ => by simp [tame] at e
  | f + 1, .tup xs, e, 0, l => by omega
  | f + 1, .tup xs, e, g + 1, l => by
    simp only [tame, Bool.and_eq_true] at e
    simp only [snap, plain]
    rw [tames_snap e.2 g (by omega)]; rfl
  | 0, .ref _, e, _, _ => by simp [tame] at e
  | _ + 1, .ref _, e, _, _ => by simp [tame] at e
  | 0, .ty _, e, _, _ => by simp [tame] at e
  | _ + 1, .ty _, e, _, _ => by simp [tame] at e
  | 0, .rep _, e, _, _ => by simp [tame] at e
  | _ + 1, .rep _, e, _, _ => by simp [tame] at e
  | 0, .stat _, e, _, _ => by simp [tame] at e
  | _ + 1, .stat _, e, _, _ => by simp [tame] at e
theorem tames_snap {h : MH} : ∀ {f : Nat} {ds : List D}, tames f ds = true → ∀ g, f ≤ g → snaps (snap h g) ds = some (plains ds)
  | _, [], _, _, _ => rfl
  | f, d :: ds, e, g, l => by
    simp only [tames, Bool.and_eq_true] at e
    simp only [snaps, plains]
    rw [tame_snap e.1 g l, tames_snap e.2 g l]
end
/-- what a tame thing is as data -/
structure Neat (f : Nat) (p : PyData) : Prop where
  lay : p.canLay0 = true
  show_ : p.showable = true
  depth : p.depth ≤ f + 1
  wide : repW p ≤ wide f
theorem wide_mono (f : Nat) : 200 ≤ wide f := by
  induction f with
  | zero => exact Nat.le_refl _
  | succ f ih => simp only [wide]; omega
mutual
theorem tame_neat : ∀ {f : Nat} {d : D}, tame f d = true → Neat f (plain d)
  | f, .non, _ => ⟨rfl, rfl, by simp [plain, PyData.depth], by have := wide_mono f; simp only [plain, repW]; omega⟩
  | f, .bl _, _ => ⟨rfl, rfl, by simp [plain, PyData.depth], by have := wide_mono f; simp only [plain, repW]; omega⟩
  | f, .int i, e => by
    have e' : i.natAbs.log2 < 190 := by cases f <;> simpa [tame] using e
    exact ⟨rfl, by simp [plain, PyData.showable]; omega, by simp [plain, PyData.depth], by have := wide_mono f; simp only [plain, repW]; omega⟩
  | f, .str x, e => by
    have e' : PyData.strOk x = true ∧ (reprText x).length ≤ 200 := by cases f <;> simpa [tame] using e
    exact ⟨by simpa [plain, PyData.canLay0] using e'.1, rfl, by simp [plain, PyData.depth], by have := wide_mono f; simp only [plain, repW]; omega⟩
  | 0, .tup xs, e => by simp [tame] at e
  | f + 1, .tup xs, e => by
    simp only [tame, Bool.and_eq_true] at e
    have l := of_decide_eq_true e.1
    obtain ⟨h1, h2, h3, h4⟩ := tames_neat e.2
    refine ⟨by simpa [plain, PyData.canLay0] using h1, by simpa [plain, PyData.showable] using h2, by simp only [plain, PyData.depth]; omega, ?_⟩
    simp only [plain, repW, MM.wide]
    have : xs.length * (MM.wide f + 2) ≤ 90 * (MM.wide f + 2) := Nat.mul_le_mul_right _ l
    omega
  | 0, .ref _, e => by simp [tame] at e
  | _ + 1, .ref _, e => by simp [tame] at e
  | 0, .ty _, e => by simp [tame] at e
  | _ + 1, .ty _, e => by simp [tame] at e
  | 0, .rep _, e => by simp [tame] at e
  | _ + 1, .rep _, e => by simp [tame] at e
  | 0, .stat _, e => by simp [tame] at e
  | _ + 1, .stat _, e => by simp [tame] at e
theorem tames_neat : ∀ {f : Nat} {ds : List D}, tames f ds = true → PyData.canLayAll0 (plains ds) = true ∧ PyData.showableAll (plains ds) = true ∧ PyData.depthAll (plains ds) ≤ f + 1 ∧ repWs (plains ds) ≤ ds.length * (wide f + 2)
  | _, [], _ => by simp [plains, PyData.canLayAll0, PyData.showableAll, PyData.depthAll, repWs]
  | f, d :: ds, e => by
    simp only [tames, Bool.and_eq_true] at e
    obtain ⟨a1, a2, a3, a4⟩ := tame_neat e.1
    obtain ⟨b1, b2, b3, b4⟩ := tames_neat e.2
    refine ⟨by simp [plains, PyData.canLayAll0, a1, b1], by simp [plains, PyData.showableAll, a2, b2], by simp only [plains, PyData.depthAll]; omega, ?_⟩
    simp only [plains, repWs, List.length_cons, Nat.add_mul, Nat.one_mul]
    omega
end
theorem Neat.repOk {f : Nat} {p : PyData} (n : Neat f p) (hf : f ≤ 2) : repOk p = true := by
  unfold MM.repOk SeqAt.shaped
  have w : MM.wide f ≤ sizeLine := by
    rcases f with _ | _ | _ | f
    · decide
    · decide
    · decide
    · omega
  have := n.depth
  simp only [Bool.and_eq_true, decide_eq_true_eq]
  exact ⟨⟨⟨n.lay, by omega⟩, n.show_⟩, Nat.le_trans n.wide w⟩
theorem eqv_self (x : Str) : PyData.eqv (.str x) (.str x) = true := by simp [PyData.eqv]
/-- repr twice told alike -/
theorem neRep {h : MH} {p : PyData} : neD (.rep p) (.rep p) h = some (.bl false, h) := by simp [neD, eqB]
/-- a for that looks for the first one that is not good -/
theorem forL_look {it : MI} {t : Tg} {body : Ms} {v : D} (good : Nat → Bool) (I : ME → Prop) {h : MH}
    (step : ∀ k env, k < it.n → I env → ∃ d e1, it.at h k = some d ∧ asg h t d env = some e1 ∧ ((good k = true ∧ ∃ e2, body e1 h = .nx e2 h ∧ I e2) ∨ (good k = false ∧ body e1 h = .rt v h)))
    (fin : it.fin h = true) : ∀ (r k : Nat) (env : ME), k + r = it.n → I env →
      (∃ e, forL it t body r k env h = .nx e h ∧ I e ∧ ∀ j, k ≤ j → j < it.n → good j = true) ∨ (forL it t body r k env h = .rt v h ∧ ∃ j, k ≤ j ∧ j < it.n ∧ good j = false) := by
  intro r
  induction r with
  | zero => exact fun k env e q => .inl ⟨env, by rw [forL, if_pos fin], q, fun j h1 h2 => by omega⟩
  | succ r ih =>
    intro k env e q
    obtain ⟨d, e1, h1, h2, z⟩ := step k env (by omega) q
    rw [forL, h1]
    simp only [h2]
    rcases z with ⟨g, e2, b, q2⟩ | ⟨g, b⟩
    · rw [b]
      rcases ih (k + 1) e2 (by omega) q2 with ⟨e', a1, a2, a3⟩ | ⟨a1, j, a2, a3, a4⟩
      · refine .inl ⟨e', a1, a2, fun j l1 l2 => ?_⟩
        by_cases hj : j = k
        · rw [hj]; exact g
        · exact a3 j (by omega) l2
      · exact .inr ⟨a1, j, by omega, a3, a4⟩
    · rw [b]
      exact .inr ⟨rfl, k, Nat.le_refl _, by omega, g⟩
theorem shifts_lo (k : Nat) : ∀ (d : D), d.lo 0 = true → d.shift k = d := by
  intro d
  refine D.rec (motive_1 := fun d => d.lo 0 = true → d.shift k = d) (motive_2 := fun ds => D.los 0 ds = true → D.shifts k ds = ds) ?_ ?_ ?_ ?_ ?_ ?_ ?_ ?_ ?_ ?_ ?_ d
  all_goals intros
  all_goals first | rfl | skip
  · rename_i ih h
    rw [D.shift, ih (by simpa [D.lo] using h)]
  · rename_i h
    simp [D.lo] at h
  · rename_i h1 h2 h
    rw [D.los, Bool.and_eq_true] at h
    rw [D.shifts, h1 h.1, h2 h.2]
theorem shiftL (k : Nat) : ∀ (ds : List D), D.los 0 ds = true → D.shifts k ds = ds
  | [], _ => rfl
  | d :: ds, h => by
    rw [D.los, Bool.and_eq_true] at h
    rw [D.shifts, shifts_lo k d h.1, shiftL k ds h.2]
/-- the list that a def tells, where it names no object -/
def cell : Res D → Option (List D)
  | .ok (.ref r) h2 => bif Nat.blt r h2.n then match h2.get r with
    | some (.lst xs) => bif D.los 0 xs then some xs else none
    | _ => none else none
  | _ => none
theorem loc_ref {f : Fn} {ds : List D} {xs : List D} (hd : D.los 0 ds = true) (e : cell (f ds MH.nil) = some xs) (h : MH) :
    ∃ (j : Nat) (h' : MH), loc f ds h = .ok (.ref j) h' ∧ Ext h h' ∧ h.n ≤ j ∧ j < h'.n ∧ h'.get j = some (.lst xs) := by
  unfold cell at e
  split at e
  · rename_i r h2 e1
    cases hr : Nat.blt r h2.n with
    | false => rw [hr] at e; cases e
    | true =>
      rw [hr] at e
      simp only [cond_true] at e
      split at e
      · rename_i xs' g
        cases hx : D.los 0 xs' with
        | false => rw [hx] at e; cases e
        | true =>
          rw [hx] at e
          cases e
          have lr : r < h2.n := Nat.le_of_ble_eq_true hr
          refine ⟨h.n + r, h.more h.n (h2.objs h2.n), ?_, ⟨by rw [more_n]; omega, fun j l => by rw [more_get, if_pos l]⟩, by omega, by rw [more_n, objs_len]; omega, ?_⟩
          · unfold loc
            have b0 : r.blt 0 = false := rfl
            simp [hd, e1, D.lo, D.shift, b0]
          · rw [more_get, if_neg (by omega), objs_len, if_pos (by omega), Nat.add_sub_cancel_left, objs_get _ _ _ lr, g]
            simp [O.shift, shiftL _ _ hx]
      · cases e
  · cases e
mutual
def tly : D → Nat
  | .tup xs => 1 + tlys xs
  | _ => 1
def tlys : List D → Nat
  | [] => 0
  | x :: xs => tly x + tlys xs
end
mutual
theorem repW_cnt : ∀ {f : Nat} {d : D}, tame f d = true → repW (plain d) + 5 ≤ 210 * tly d
  | f, .non, _ => by simp [plain, repW, tly]
  | f, .bl _, _ => by simp [plain, repW, tly]
  | f, .int i, e => by
    have e' : i.natAbs.log2 < 190 := by cases f <;> simpa [tame] using e
    simp only [plain, repW, tly]; omega
  | f, .str x, e => by
    have e' : PyData.strOk x = true ∧ (reprText x).length ≤ 200 := by cases f <;> simpa [tame] using e
    simp only [plain, repW, tly]; omega
  | 0, .tup xs, e => by simp [tame] at e
  | f + 1, .tup xs, e => by
    simp only [tame, Bool.and_eq_true] at e
    have := repWs_cnts e.2
    simp only [plain, repW, tly]; omega
  | 0, .ref _, e => by simp [tame] at e
  | _ + 1, .ref _, e => by simp [tame] at e
  | 0, .ty _, e => by simp [tame] at e
  | _ + 1, .ty _, e => by simp [tame] at e
  | 0, .rep _, e => by simp [tame] at e
  | _ + 1, .rep _, e => by simp [tame] at e
  | 0, .stat _, e => by simp [tame] at e
  | _ + 1, .stat _, e => by simp [tame] at e
theorem repWs_cnts : ∀ {f : Nat} {ds : List D}, tames f ds = true → repWs (plains ds) ≤ 210 * tlys ds
  | _, [], _ => by simp [plains, repWs, tlys]
  | f, d :: ds, e => by
    simp only [tames, Bool.and_eq_true] at e
    have h1 := repW_cnt e.1
    have h2 := repWs_cnts e.2
    simp only [plains, repWs, tlys]; omega
end
/-- repr of a tame thing, of a list of tame things -/
theorem repr_tame {f : Nat} {d : D} {h : MH} (e : tame f d = true) (hf : f ≤ 30) (hc : tly d ≤ 10000) : reprF [d] h = some (.rep (plain d), h) := by
  have sn := tame_snap (h := h) e deep (by unfold deep; omega)
  have n := tame_neat e
  have w := repW_cnt e
  have big : (2100000 : Nat) ≤ sizeLine := by decide
  have dp := n.depth
  have ok : repOk (plain d) = true := by
    unfold MM.repOk SeqAt.shaped
    simp only [Bool.and_eq_true, decide_eq_true_eq]
    exact ⟨⟨⟨n.lay, by omega⟩, n.show_⟩, by omega⟩
  simp [reprF, sn, ok]
theorem repr_list {f : Nat} {ds : List D} {r : Nat} {h : MH} (g : h.get r = some (.lst ds)) (e : tames f ds = true) (hf : f ≤ 30) (hc : tlys ds ≤ 10000) : reprF [.ref r] h = some (.rep (.list (plains ds)), h) := by
  have sq := MH.seq_lst g
  have sn := tames_snap (h := h) e 39 (by omega)
  obtain ⟨n1, n2, n3, n4⟩ := tames_neat e
  have w := repWs_cnts e
  have big : (2100002 : Nat) ≤ sizeLine := by decide
  have ok : repOk (.list (plains ds)) = true := by
    unfold MM.repOk SeqAt.shaped
    simp only [Bool.and_eq_true, decide_eq_true_eq]
    refine ⟨⟨⟨by simpa [PyData.canLay0] using n1, by simp only [PyData.depth]; omega⟩, by simpa [PyData.showable] using n2⟩, by simp only [repW]; omega⟩
  simp [reprF, snap, deep, sq, sn, ok]
/-! ### step by step -/
theorem sSeq_nx {a b : Ms} {env e : ME} {h h1 : MH} (q : a env h = .nx e h1) : sSeq a b env h = b e h1 := by unfold sSeq; rw [q]
theorem sSeq_rt {a b : Ms} {env : ME} {h h1 : MH} {v : D} (q : a env h = .rt v h1) : sSeq a b env h = .rt v h1 := by unfold sSeq; rw [q]
theorem sSeq_skip {t : Mt} {a c : Ms} {env : ME} {h h1 : MH} (q : t env h = .ok false h1) : sSeq (sIf t a sNil) c env h = c env h1 := by
  unfold sSeq sIf
  rw [q]
  rfl
theorem sSeq_go {t : Mt} {a b c : Ms} {env : ME} {h h1 : MH} (q : t env h = .ok true h1) : sSeq (sIf t a b) c env h = sSeq a c env h1 := by
  unfold sSeq sIf
  rw [q]
  rfl
theorem sIf_go {t : Mt} {a b : Ms} {env : ME} {h h1 : MH} (q : t env h = .ok true h1) : sIf t a b env h = a env h1 := by
  unfold sIf
  rw [q]
  rfl
theorem sIf_not {t : Mt} {a b : Ms} {env : ME} {h h1 : MH} (q : t env h = .ok false h1) : sIf t a b env h = b env h1 := by
  unfold sIf
  rw [q]
  rfl
theorem runD_rt {n : Nat} {b : Ms} {ds : List D} {h h1 : MH} {v : D} (q : b (ds.map some ++ List.replicate (n - ds.length) none) h = .rt v h1) : runD n b ds h = .ok v h1 := by
  unfold runD
  rw [q]
theorem eLc_of {mi : Mi} {t : Tg} {tt : Mt} {te : Mx} {own : List Nat} {env : ME} {h h1 h2 : MH} {it : MI} (q1 : mi env h = .ok it h1) (q2 : lcL it t tt te (wipeE env own) h1.n it.n 0 (h1.add (.lst [])) = some h2) : eLc mi t tt te own env h = .ok (.ref h1.n) h2 := by
  unfold eLc
  rw [q1]
  simp only [Res.bind, q2]
theorem eF1 {f : Fn} {m1 : Mx} {a : D} {env : ME} {h h1 : MH} {r : Res D} (q1 : m1 env h = .ok a h1) (q : f [a] h1 = r) : eF f (aCons m1 aNil) env h = r := by
  simp only [eF, aCons, aNil, q1, Res.bind, q]
theorem eF2 {f : Fn} {m1 m2 : Mx} {a b : D} {env : ME} {h h1 h2 : MH} {r : Res D} (q1 : m1 env h = .ok a h1) (q2 : m2 env h1 = .ok b h2) (q : f [a, b] h2 = r) : eF f (aCons m1 (aCons m2 aNil)) env h = r := by
  simp only [eF, aCons, aNil, q1, q2, Res.bind, q]
theorem eF3 {f : Fn} {m1 m2 m3 : Mx} {a b c : D} {env : ME} {h h1 h2 h3 : MH} {r : Res D} (q1 : m1 env h = .ok a h1) (q2 : m2 env h1 = .ok b h2) (q3 : m3 env h2 = .ok c h3) (q : f [a, b, c] h3 = r) : eF f (aCons m1 (aCons m2 (aCons m3 aNil))) env h = r := by
  simp only [eF, aCons, aNil, q1, q2, q3, Res.bind, q]
theorem eF4 {f : Fn} {m1 m2 m3 m4 : Mx} {a b c d : D} {env : ME} {h h1 h2 h3 h4 : MH} {r : Res D} (q1 : m1 env h = .ok a h1) (q2 : m2 env h1 = .ok b h2) (q3 : m3 env h2 = .ok c h3) (q4 : m4 env h3 = .ok d h4) (q : f [a, b, c, d] h4 = r) : eF f (aCons m1 (aCons m2 (aCons m3 (aCons m4 aNil)))) env h = r := by
  simp only [eF, aCons, aNil, q1, q2, q3, q4, Res.bind, q]
theorem lenE {k : Nat} {xs : List D} {env : ME} {h : MH} (e : env[k]? = some (some (.tup xs))) : eCB lenF (aCons (eVar k) aNil) env h = .ok (.int xs.length) h := by
  simp only [eCB, aCons, aNil, eVar, e, Res.bind, lenF, lenN, Option.map_some, ofOpt]
theorem sSet_ok {i : Nat} {m : Mx} {a : D} {env : ME} {h h1 : MH} (q : m env h = .ok a h1) : sSet i m env h = .nx (env.set i (some a)) h1 := by
  unfold sSet
  rw [q]
  rfl
theorem sRet_ok {m : Mx} {a : D} {env : ME} {h h1 : MH} (q : m env h = .ok a h1) : sRet m env h = .rt a h1 := by
  unfold sRet
  rw [q]
  rfl
theorem twoT {m m2 : Mx} {a b : D} {env : ME} {h h1 h2 : MH} (q1 : m env h = .ok a h1) (q2 : m2 env h1 = .ok b h2) : eTup (aCons m (aCons m2 aNil)) env h = .ok (.tup [a, b]) h2 := by
  have : ([a, b] : List D).length ≤ sizeLine := show 2 ≤ sizeLine from by decide
  simp only [eTup, aCons, aNil, q1, q2, Res.bind, mkTup, if_pos this, ofOpt]
theorem threeT {m m2 m3 : Mx} {a b c : D} {env : ME} {h h1 h2 h3 : MH} (q1 : m env h = .ok a h1) (q2 : m2 env h1 = .ok b h2) (q3 : m3 env h2 = .ok c h3) : eTup (aCons m (aCons m2 (aCons m3 aNil))) env h = .ok (.tup [a, b, c]) h3 := by
  have : ([a, b, c] : List D).length ≤ sizeLine := show 3 ≤ sizeLine from by decide
  simp only [eTup, aCons, aNil, q1, q2, q3, Res.bind, mkTup, if_pos this, ofOpt]
theorem threeL {m m2 m3 : Mx} {a b c : D} {env : ME} {h h1 h2 h3 : MH} (q1 : m env h = .ok a h1) (q2 : m2 env h1 = .ok b h2) (q3 : m3 env h2 = .ok c h3) : eLst (aCons m (aCons m2 (aCons m3 aNil))) env h = .ok (.ref h3.n) (h3.add (.lst [a, b, c])) := by
  have : ([a, b, c] : List D).length ≤ sizeLine := show 3 ≤ sizeLine from by decide
  simp only [eLst, aCons, aNil, q1, q2, q3, Res.bind, mkLst, if_pos this, ofOpt]
theorem parT {i j : Nat} {m m2 : Mx} {a b : D} {env : ME} {h h1 h2 : MH} (q1 : m env h = .ok a h1) (q2 : m2 env h1 = .ok b h2) : sPar i j (aCons m (aCons m2 aNil)) env h = .nx ((env.set i (some a)).set j (some b)) h2 := by
  simp only [sPar, aCons, aNil, q1, q2, Res.bind, Res.toS]
theorem eCB1 {f : List D → MH → Option (D × MH)} {m : Mx} {a b : D} {env : ME} {h h1 h2 : MH} (q1 : m env h = .ok a h1) (q : f [a] h1 = some (b, h2)) : eCB f (aCons m aNil) env h = .ok b h2 := by
  simp only [eCB, aCons, aNil, q1, Res.bind, q, ofOpt]
theorem eOp2 {f : D → D → MH → Option (D × MH)} {m m2 : Mx} {a b c : D} {env : ME} {h h1 h2 h3 : MH} (q1 : m env h = .ok a h1) (q2 : m2 env h1 = .ok b h2) (q : f a b h2 = some (c, h3)) : eOp f m m2 env h = .ok c h3 := by
  simp only [eOp, q1, q2, Res.bind, q, ofOpt]
theorem tBl_ok {m : Mx} {k : Bool} {env : ME} {h h1 : MH} (q : m env h = .ok (.bl k) h1) : tBl m env h = .ok k h1 := by
  simp only [tBl, q, Res.bind, isB]
theorem tOr_no {a b : Mt} {k : Bool} {env : ME} {h h1 h2 : MH} (q1 : a env h = .ok false h1) (q2 : b env h1 = .ok k h2) : tOrM a b env h = .ok k h2 := by
  simp only [tOrM, q1, Res.bind, q2]
end MM

set_option Elab.async false
set_option linter.all false
set_option maxRecDepth 100000
set_option maxHeartbeats 4000000
set_option autoImplicit false
/-! instances: attributes, calls with keywords, methods, making -/
namespace MM
open PySem PySem.Spec PyProof.Rows L2

section
variable {K : PySem.W.Frag} {G : Nat → Option Addr} {ρ : List Addr} {H : Hp}
theorem RFs.look : ∀ {fs : List (Str × D)} {vs : List (Str × V)} {f : Str} {d : D}, RFs K G ρ H fs vs → fs.lookup f = some d → ∃ v, vs.lookup f = some v ∧ RD K G ρ H d v
  | _, _, f, d, .nil, e => by simp [List.lookup] at e
  | _, _, f, d, .cons (f := g) a b, e => by
    by_cases h : f = g
    · subst h
      simp [List.lookup] at e
      subst e
      exact ⟨_, by simp [List.lookup], a⟩
    · have hb : (f == g) = false := by simpa using h
      simp only [List.lookup, hb] at e
      obtain ⟨v, e1, e2⟩ := RFs.look b e
      exact ⟨v, by simp only [List.lookup, hb]; exact e1, e2⟩
theorem RFs.look_none : ∀ {fs : List (Str × D)} {vs : List (Str × V)} {f : Str}, RFs K G ρ H fs vs → fs.lookup f = none → vs.lookup f = none
  | _, _, f, .nil, e => rfl
  | _, _, f, .cons (f := g) a b, e => by
    by_cases h : f = g
    · subst h; simp [List.lookup] at e
    · have hb : (f == g) = false := by simpa using h
      simp only [List.lookup, hb] at e ⊢
      exact RFs.look_none b e
def putFD (f : Str) (v : D) : List (Str × D) → List (Str × D)
  | [] => [(f, v)]
  | (g, x) :: r => bif decide (g = f) then (g, v) :: r else (g, x) :: putFD f v r
theorem RFs.putF : ∀ {fs : List (Str × D)} {vs : List (Str × V)} {f : Str} {d : D} {v : V}, RFs K G ρ H fs vs → RD K G ρ H d v → RFs K G ρ H (putFD f d fs) (L2.putF f v vs)
  | _, _, f, d, v, .nil, r => .cons r .nil
  | _, _, f, d, v, .cons (f := g) a b, r => by
    unfold putFD L2.putF
    by_cases h : g = f
    · rw [if_pos h, decide_eq_true h]; exact .cons r b
    · rw [if_neg h, decide_eq_false h]; exact .cons a (RFs.putF b r)
end

/-! ### attributes -/
def fldD (Cs : List Nat) (f : Str) (x : D) (h : MH) : Option D := match x with
  | .ref i => match h.get i with
    | some (.ins C fs) => bif Cs.contains C then fs.lookup f else none
    | _ => none
  | _ => none
def eFld (Cs : List Nat) (f : Str) (m : Mx) : Mx := fun env h => (m env h).bind fun x h1 => ofOpt (keep h1 (fldD Cs f x h1))
def setFD (Cs : List Nat) (f : Str) (y x : D) (h : MH) : Option MH := match x with
  | .ref i => match h.get i with
    | some (.ins C fs) => bif Cs.contains C && Nat.blt fs.length 1000 then some (h.set i (.ins C (putFD f y fs))) else none
    | _ => none
  | _ => none
def sFldM (Cs : List Nat) (f : Str) (mo mv : Mx) : Ms := fun env h => (mv env h).toS env fun y h1 => (mo env h1).toS env fun x h2 => match setFD Cs f y x h2 with
  | some h3 => .nx env h3
  | none => .bad
/-- what is known of the classes Cs, for the attribute f -/
def ClF (K : PySem.W.Frag) (G : Nat → Option Addr) (Cs : List Nat) (f : Str) : Prop := ∀ C c, C ∈ Cs → G C = some c → Cls K c ∧ NoAttr K c f
theorem ClF.one {K : PySem.W.Frag} {G : Nat → Option Addr} {C : Nat} {c : Addr} {f : Str} (g : G C = some c) (a : Cls K c) (b : NoAttr K c f) : ClF K G [C] f := fun D d hD e => by
  rw [List.mem_singleton.mp hD, g] at e
  cases e
  exact ⟨a, b⟩
theorem ClF.two {K : PySem.W.Frag} {G : Nat → Option Addr} {C C' : Nat} {f : Str} (a : ClF K G [C] f) (b : ClF K G [C'] f) : ClF K G [C, C'] f := fun D d hD e => by
  rcases List.mem_cons.mp hD with q | q
  · exact a D d (by rw [q]; exact List.mem_singleton.mpr rfl) e
  · exact b D d q e
theorem Rel.ins {K : PySem.W.Frag} {G : Nat → Option Addr} {ρ : List Addr} {H : Hp} {h : MH} {i C : Nat} {fs : List (Str × D)} (r : Rel K G ρ h H) (e : h.get i = some (.ins C fs)) :
    ∃ a c dx vs, ρ[i]? = some a ∧ G C = some c ∧ H a = some (.ins c dx vs) ∧ RFs K G ρ H fs vs := by
  obtain ⟨a, q, c, dx, vs, e1, e2, e3, e4⟩ := r.ob i _ e
  exact ⟨a, c, dx, vs, q, e1, e2, e3⟩
theorem Rel.insN {K : PySem.W.Frag} {G : Nat → Option Addr} {ρ : List Addr} {H : Hp} {h : MH} {i C : Nat} {fs : List (Str × D)} (r : Rel K G ρ h H) (e : h.get i = some (.ins C fs)) :
    ∃ a c dx vs, ρ[i]? = some a ∧ G C = some c ∧ H a = some (.ins c dx vs) ∧ RFs K G ρ H fs vs ∧ NdF K H fs vs := by
  obtain ⟨a, q, c, dx, vs, e1, e2, e3, e4⟩ := r.ob i _ e
  exact ⟨a, c, dx, vs, q, e1, e2, e3, e4⟩
theorem putF_look {f g : Str} {v : V} : ∀ {vs : List (Str × V)}, (putF f v vs).lookup g = if g = f then some v else vs.lookup g
  | [] => by
    unfold putF
    by_cases h : g = f
    · rw [if_pos h, h, List.lookup_cons_self]
    · rw [if_neg h, List.lookup_cons, beq_false_of_ne h]
  | (k, u) :: vs => by
    unfold putF
    by_cases h : k = f
    · rw [if_pos h]
      by_cases q : g = f
      · rw [if_pos q, q, h, List.lookup_cons_self]
      · rw [if_neg q, List.lookup_cons, List.lookup_cons, beq_false_of_ne (by rw [h]; exact q)]
    · rw [if_neg h, List.lookup_cons, List.lookup_cons]
      by_cases q : g = k
      · rw [q, beq_self_eq_true, if_neg h]
      · rw [beq_false_of_ne q]; exact putF_look
theorem putFD_look {f g : Str} {v : D} : ∀ {vs : List (Str × D)}, (putFD f v vs).lookup g = if g = f then some v else vs.lookup g
  | [] => by
    unfold putFD
    by_cases h : g = f
    · rw [if_pos h, h, List.lookup_cons_self]
    · rw [if_neg h, List.lookup_cons, beq_false_of_ne h]
  | (k, u) :: vs => by
    unfold putFD
    by_cases h : k = f
    · rw [decide_eq_true h, cond_true]
      by_cases q : g = f
      · rw [if_pos q, q, h, List.lookup_cons_self]
      · rw [if_neg q, List.lookup_cons, List.lookup_cons, beq_false_of_ne (by rw [h]; exact q)]
    · rw [decide_eq_false h, cond_false, List.lookup_cons, List.lookup_cons]
      by_cases q : g = k
      · rw [q, beq_self_eq_true, if_neg h]
      · rw [beq_false_of_ne q]; exact putFD_look
theorem NdF.put {K : PySem.W.Frag} {H : Hp} {fs : List (Str × D)} {vs : List (Str × V)} {f : Str} {d : D} {v : V} (h : NdF K H fs vs) (hv : f = plN → ∀ ds, d = .tup ds → ∃ b, v = .ref b ∧ NdT K H b) : NdF K H (putFD f d fs) (putF f v vs) := fun ds u e0 e => by
  rw [putF_look] at e
  rw [putFD_look] at e0
  by_cases q : plN = f
  · rw [if_pos q] at e e0; cases e; cases e0; exact hv q.symm ds rfl
  · rw [if_neg q] at e e0; exact h ds u e0 e
/-- an expression whose value is a tuple without a dict -/
def RdN (K : PySem.W.Frag) (G : Nat → Option Addr) (W : WX) (m : Mx) : TE := fun σ H Q => ∃ (ρ : List Addr) (h : MH) (env : ME), Rel K G ρ h H ∧ REnv K G ρ H env σ ∧ Wp K G (fun ρ H d v => RD K G ρ H d v ∧ ∃ b, v = .ref b ∧ NdT K H b) ρ H (m env h) Q (fun c d H' => W c d σ H')
section
variable {X : Cx} {G : Nat → Option Addr} {W : WX} {e o : Expr} {pos p' : Pos} {f : Str} {Cs : List Nat}
theorem me_fld {m : Mx} (hC : ClF X.K G Cs f) (he : PE X e (RdE X.K G W m)) (hb : attributeBase e f X.env (eval e X.env) = eval e X.env := by rfl) : PE X (.Attribute e f pos) (RdE X.K G W (eFld Cs f m)) := by
  refine PE.imp (pe_fld he hb) fun σ H Q q => ?_
  obtain ⟨ρ, h, env, r, re, w⟩ := q
  refine ⟨ρ, h, env, r, re, Wp.bind w fun x h1 ρ1 H1 vx f1 r1 q1 w1 => ?_⟩
  obtain ⟨v, h', e1, k⟩ := w1.opt
  obtain ⟨e2, rfl⟩ := keep_eq e1
  unfold fldD at e2
  split at e2
  · rename_i i
    split at e2
    · rename_i C fs g1
      cases ec : Cs.contains C with
      | false => rw [ec] at e2; cases e2
      | true =>
        rw [ec] at e2
        obtain ⟨a, c, dx, vs, p1, p2, p3, p4⟩ := r1.ins g1
        cases q1 with
        | ref ha =>
          rw [ha] at p1; cases p1
          obtain ⟨u, l1, l2⟩ := p4.look e2
          obtain ⟨c1, c2⟩ := hC C c (by simpa using ec) p2
          exact ⟨_, c, dx, vs, u, rfl, p3, c1, c2, l1, k ρ1 H1 u .refl r1 l2⟩
    · cases e2
  · cases e2
theorem ms_fld {mo mv : Mx} (hC : ClF X.K G Cs f) (hf : decide (f = plN) = false) (ho : PE X o (RdE X.K G W mo)) (hv : PE X e (RdE X.K G W mv)) (hs : swapsWith e (some (.Attribute o f p')) pos.line X.env = pure false := by rfl) : PS X (.Assign [.Attribute o f p'] e pos) (RdS X.K G W (sFldM Cs f mo mv)) := by
  refine PS.imp (ps_fld ho hv hs) fun D σ H q => ?_
  obtain ⟨ρ, h, env, r, re, w⟩ := q
  refine ⟨ρ, h, env, r, re, WpS.bind w re fun y h1 ρ1 H1 vy f1 r1 q1 re1 w1 => ?_⟩
  refine ⟨ρ1, h1, env, r1, re1, WpS.bind w1 re1 fun x h2 ρ2 H2 vx f2 r2 q2 re2 w2 => ?_⟩
  cases es : setFD Cs f y x h2 with
  | none => rw [es] at w2; exact w2.elim
  | some h3 =>
    rw [es] at w2
    simp only at w2
    unfold setFD at es
    split at es
    · rename_i i
      split at es
      · rename_i C fs g1
        cases ec : (Cs.contains C && Nat.blt fs.length 1000) with
        | false => rw [ec] at es; cases es
        | true =>
          rw [ec] at es
          cases es
          rw [Bool.and_eq_true] at ec
          obtain ⟨a, c, dx, vs, p1, p2, p3, p4, p5⟩ := r2.insN g1
          cases q2 with
          | ref ha =>
            rw [ha] at p1; cases p1
            obtain ⟨c1, c2⟩ := hC C c (by simpa using ec.1) p2
            have hl : vs.length < 1000 := by rw [← p4.len]; exact Nat.le_of_ble_eq_true ec.2
            have n : NoTup (H2 a) := by rw [p3]; exact .ins
            have fu : Fut X.K ρ2 H2 ρ2 (upd H2 a (.ins c dx (putF f vy vs))) := Fut.updS ha n
            have ru : Rel X.K G ρ2 (h2.set i (.ins C (putFD f y fs))) (upd H2 a (.ins c dx (putF f vy vs))) := r2.set g1 rfl rfl ha n ⟨c, dx, _, p2, upd_same, (p4.fut fu).putF ((q1.fut f2).fut fu), (p5.fut fu).put fun z _ _ => absurd z (of_decide_eq_false hf)⟩
            exact ⟨_, c, dx, vs, rfl, p3, c1, c2, hl, w2 _ _ _ fu ru (re2.fut fu)⟩
      · cases es
    · cases es
def setFL (Cs : List Nat) (f : Str) (y x : D) (h : MH) : Option MH := match y with
  | .ref _ => setFD Cs f y x h
  | _ => none
def sFldL (Cs : List Nat) (f : Str) (mo mv : Mx) : Ms := fun env h => (mv env h).toS env fun y h1 => (mo env h1).toS env fun x h2 => match setFL Cs f y x h2 with
  | some h3 => .nx env h3
  | none => .bad
theorem ms_fldL {mo mv : Mx} (hC : ClF X.K G Cs f) (ho : PE X o (RdE X.K G W mo)) (hv : PE X e (RdE X.K G W mv)) (hs : swapsWith e (some (.Attribute o f p')) pos.line X.env = pure false := by rfl) : PS X (.Assign [.Attribute o f p'] e pos) (RdS X.K G W (sFldL Cs f mo mv)) := by
  refine PS.imp (ps_fld ho hv hs) fun D σ H q => ?_
  obtain ⟨ρ, h, env, r, re, w⟩ := q
  refine ⟨ρ, h, env, r, re, WpS.bind w re fun y h1 ρ1 H1 vy f1 r1 q1 re1 w1 => ?_⟩
  refine ⟨ρ1, h1, env, r1, re1, WpS.bind w1 re1 fun x h2 ρ2 H2 vx f2 r2 q2 re2 w2 => ?_⟩
  cases es : setFL Cs f y x h2 with
  | none => rw [es] at w2; exact w2.elim
  | some h3 =>
    rw [es] at w2
    simp only at w2
    unfold setFL at es
    split at es
    case h_2 => cases es
    rename_i yi
    unfold setFD at es
    split at es
    · rename_i i
      split at es
      · rename_i C fs g1
        cases ec : (Cs.contains C && Nat.blt fs.length 1000) with
        | false => rw [ec] at es; cases es
        | true =>
          rw [ec] at es
          cases es
          rw [Bool.and_eq_true] at ec
          obtain ⟨a, c, dx, vs, p1, p2, p3, p4, p5⟩ := r2.insN g1
          cases q2 with
          | ref ha =>
            rw [ha] at p1; cases p1
            obtain ⟨c1, c2⟩ := hC C c (by simpa using ec.1) p2
            have hl : vs.length < 1000 := by rw [← p4.len]; exact Nat.le_of_ble_eq_true ec.2
            have n : NoTup (H2 a) := by rw [p3]; exact .ins
            have fu : Fut X.K ρ2 H2 ρ2 (upd H2 a (.ins c dx (putF f vy vs))) := Fut.updS ha n
            have ru : Rel X.K G ρ2 (h2.set i (.ins C (putFD f (.ref yi) fs))) (upd H2 a (.ins c dx (putF f vy vs))) := r2.set g1 rfl rfl ha n ⟨c, dx, _, p2, upd_same, (p4.fut fu).putF ((q1.fut f2).fut fu), (p5.fut fu).put fun _ _ z => by cases z⟩
            exact ⟨_, c, dx, vs, rfl, p3, c1, c2, hl, w2 _ _ _ fu ru (re2.fut fu)⟩
      · cases es
    · cases es
/-- the attribute that holds the places -/
theorem ms_fldN {mo mv : Mx} (hC : ClF X.K G Cs f) (ho : PE X o (RdE X.K G W mo)) (hv : PE X e (RdN X.K G W mv)) (hs : swapsWith e (some (.Attribute o f p')) pos.line X.env = pure false := by rfl) : PS X (.Assign [.Attribute o f p'] e pos) (RdS X.K G W (sFldM Cs f mo mv)) := by
  refine PS.imp (ps_fld ho hv hs) fun D σ H q => ?_
  obtain ⟨ρ, h, env, r, re, w⟩ := q
  refine ⟨ρ, h, env, r, re, WpS.bind w re fun y h1 ρ1 H1 vy f1 r1 q0 re1 w1 => ?_⟩
  obtain ⟨q1, vb, rfl, qn⟩ := q0
  refine ⟨ρ1, h1, env, r1, re1, WpS.bind w1 re1 fun x h2 ρ2 H2 vx f2 r2 q2 re2 w2 => ?_⟩
  cases es : setFD Cs f y x h2 with
  | none => rw [es] at w2; exact w2.elim
  | some h3 =>
    rw [es] at w2
    simp only at w2
    unfold setFD at es
    split at es
    · rename_i i
      split at es
      · rename_i C fs g1
        cases ec : (Cs.contains C && Nat.blt fs.length 1000) with
        | false => rw [ec] at es; cases es
        | true =>
          rw [ec] at es
          cases es
          rw [Bool.and_eq_true] at ec
          obtain ⟨a, c, dx, vs, p1, p2, p3, p4, p5⟩ := r2.insN g1
          cases q2 with
          | ref ha =>
            rw [ha] at p1; cases p1
            obtain ⟨c1, c2⟩ := hC C c (by simpa using ec.1) p2
            have hl : vs.length < 1000 := by rw [← p4.len]; exact Nat.le_of_ble_eq_true ec.2
            have n : NoTup (H2 a) := by rw [p3]; exact .ins
            have fu : Fut X.K ρ2 H2 ρ2 (upd H2 a (.ins c dx (putF f (.ref vb) vs))) := Fut.updS ha n
            have ru : Rel X.K G ρ2 (h2.set i (.ins C (putFD f y fs))) (upd H2 a (.ins c dx (putF f (.ref vb) vs))) := r2.set g1 rfl rfl ha n ⟨c, dx, _, p2, upd_same, (p4.fut fu).putF ((q1.fut f2).fut fu), (p5.fut fu).put fun _ _ _ => ⟨vb, rfl, (qn.fut f2).fut fu⟩⟩
            exact ⟨_, c, dx, vs, rfl, p3, c1, c2, hl, w2 _ _ _ fu ru (re2.fut fu)⟩
      · cases es
    · cases es
def fldT (Cs : List Nat) (f : Str) (x : D) (h : MH) : Option D := match fldD Cs f x h with
  | some (.tup ds) => some (.tup ds)
  | _ => none
def eFldN (Cs : List Nat) (f : Str) (m : Mx) : Mx := fun env h => (m env h).bind fun x h1 => ofOpt (keep h1 (fldT Cs f x h1))
/-- it is read as such a tuple -/
theorem me_fldN {m : Mx} (hC : ClF X.K G Cs plN) (he : PE X e (RdE X.K G W m)) (hb : attributeBase e plN X.env (eval e X.env) = eval e X.env := by rfl) : PE X (.Attribute e plN pos) (RdN X.K G W (eFldN Cs plN m)) := by
  refine PE.imp (pe_fld he hb) fun σ H Q q => ?_
  obtain ⟨ρ, h, env, r, re, w⟩ := q
  refine ⟨ρ, h, env, r, re, Wp.bind w fun x h1 ρ1 H1 vx f1 r1 q1 w1 => ?_⟩
  cases e1 : keep h1 (fldT Cs plN x h1) with
  | none => rw [e1] at w1; exact w1.elim
  | some p =>
    rw [e1] at w1
    obtain ⟨d, h'⟩ := p
    obtain ⟨e2, rfl⟩ := keep_eq e1
    unfold fldT at e2
    split at e2
    case h_2 => cases e2
    rename_i ds e3
    cases e2
    unfold fldD at e3
    split at e3
    · rename_i i
      split at e3
      · rename_i C fs g1
        cases ec : Cs.contains C with
        | false => rw [ec] at e3; cases e3
        | true =>
          rw [ec] at e3
          obtain ⟨a, c, dx, vs, p1, p2, p3, p4, p5⟩ := r1.insN g1
          cases q1 with
          | ref ha =>
            rw [ha] at p1; cases p1
            obtain ⟨u, l1, l2⟩ := p4.look e3
            obtain ⟨c1, c2⟩ := hC C c (by simpa using ec) p2
            exact ⟨_, c, dx, vs, u, rfl, p3, c1, c2, l1, w1 ρ1 H1 u .refl r1 ⟨l2, p5 ds u e3 l1⟩⟩
      · cases e3
    · cases e3
/-- such a tuple, written -/
theorem me_tupN {a : Expr} {es : List Expr} {k : Nat} {ma : Mx} {ms : Ma} (h : PA X (a :: es) (RdA X.K G W (aCons ma ms))) : PE X (.Tuple (a :: es) k pos) (RdN X.K G W (eTup (aCons ma ms))) := by
  refine ⟨fun pins s σ H Q I q => ?_⟩
  obtain ⟨ρ, h0, env, r, re, w⟩ := q
  refine wpAny_Tuple_spliced (thn (h.run pos pins s σ H (fun xs H1 => xs.length ≤ sizeLine ∧ ∃ (ρ1 : List Addr) (h1 : MH) (ds : List D), Rel X.K G ρ1 h1 H1 ∧ RDs X.K G ρ1 H1 ds xs ∧ ∀ ρ2 H2 v, Fut X.K ρ1 H1 ρ2 H2 → Rel X.K G ρ2 h1 H2 → RD X.K G ρ2 H2 (.tup ds) v → (∃ b, v = .ref b ∧ NdT X.K H2 b) → Q v H2)
    I ⟨ρ, h0, env, r, re, Wp.bind w fun xs h1 ρ1 H1 vs f1 r1 q1 w1 => by
      cases et : mkTup xs h1 with
      | none => rw [et] at w1; exact w1.elim
      | some p =>
        rw [et] at w1
        unfold mkTup at et
        split at et
        · rename_i hz
          cases et
          exact ⟨by rw [← q1.length]; exact hz, ρ1, h1, xs, r1, q1, fun ρ2 H2 v f2 r2 q2 n2 => w1 ρ2 H2 v f2 r2 ⟨q2, n2⟩⟩
        · cases et⟩) fun us s1 ⟨xs, H1, I1, rv, z, ρ1, h1, ds, r1, q1, kk⟩ => ⟨by rw [← rv.length]; exact z, ?_⟩)
  have hf : H1 s1.heap.objs.size = none := I1.hok.fresh (Nat.le_refl _)
  have f2 : Fut X.K ρ1 H1 ρ1 (upd H1 s1.heap.objs.size (.frz { cls := .type "tuple", data := .seq us.toArray } (.tup xs))) := Fut.updN hf
  refine ⟨.ref s1.heap.objs.size, _, I1.laid (t' := s1.toks) (o := .frz { cls := .type "tuple", data := .seq us.toArray } (.tup xs)) (fun b u e => Heap.get?_push_of_some _ e) (Nat.le_refl _) ?_, rfl, kk ρ1 _ (.ref s1.heap.objs.size) f2 (r1.laid hf) (.tup (.inl (.inr ⟨_, upd_same⟩)) (q1.fut f2)) ⟨_, rfl, _, rfl, rfl, .inl ⟨_, upd_same⟩⟩⟩
  exact ⟨Heap.get?_push_size _ rfl, z, us, rv, ⟨_, Heap.get?_push_size _ rfl, rfl, _, rfl⟩⟩
/-- such a tuple and another one -/
def catN (a b : D) (h : MH) : Option (D × MH) := match a, b with
  | .tup xs, .tup ys => bif !(xs.isEmpty) && Nat.ble (xs.length + ys.length) sizeLine then some (.tup (xs ++ ys), h) else none
  | _, _ => none
theorem me_catN {a b : Expr} {ma mb : Mx} (ha : PE X a (RdN X.K G W ma)) (hb : PE X b (RdE X.K G W mb)) : PE X (.BinOp a .Add b pos) (RdN X.K G W (eOp catN ma mb)) := by
  have op : OpR X (binaryOp .Add) (fun x y H Q => ∃ (ρ : List Addr) (h : MH) (d1 d2 v : D) (h' : MH), Rel X.K G ρ h H ∧ RD X.K G ρ H d1 x ∧ RD X.K G ρ H d2 y ∧ (∃ b, x = .ref b ∧ NdT X.K H b) ∧ catN d1 d2 h = some (v, h') ∧
      ∀ (ρ' : List Addr) (H' : Hp) (v' : V), Fut X.K ρ H ρ' H' → Rel X.K G ρ' h' H' → RD X.K G ρ' H' v v' → (∃ b, v' = .ref b ∧ NdT X.K H' b) → Q v' H') := by
    intro pins s σ H x y v u Q I rx ry q
    obtain ⟨ρ, h, d1, d2, w, h', R, ra, rb, ⟨b0, rfl, nd⟩, e, kk⟩ := q
    unfold catN at e
    split at e
    · rename_i xs ys
      cases ec : !(xs.isEmpty) && Nat.ble (xs.length + ys.length) sizeLine with
      | false => rw [ec] at e; cases e
      | true =>
        rw [ec] at e; cases e
        rw [Bool.and_eq_true] at ec
        have hne : xs ≠ [] := by intro z; rw [z] at ec; simp at ec
        cases ra with
        | tup sa da =>
          cases rb with
          | tup sb db =>
            cases rx
            cases ry
            obtain ⟨its, r1, p1, _⟩ := I.tuple sa
            obtain ⟨its2, r2, p2, _⟩ := I.tuple sb
            have hz : its.length + its2.length ≤ sizeLine := by rw [← r1.length, ← r2.length, ← da.length, ← db.length]; exact Nat.le_of_ble_eq_true ec.2
            refine HT.cat_tup p1 p2 (fun z => hne (da.nil_iff.mpr (r1.nil_iff.mp z))) (fun z => ⟨.ref b0, H, I, rfl, kk ρ H _ .refl R (.tup sa ?_) ⟨_, rfl, nd⟩⟩) (fun z => ?_) hz
            · have := db.nil_iff.mpr (r2.nil_iff.mp z)
              rw [this, List.append_nil]; exact da
            · have hf : H s.heap.objs.size = none := I.hok.fresh (Nat.le_refl _)
              refine ⟨.ref s.heap.objs.size, _, I.laid (t' := s.toks) (o := .frz { cls := .type "tuple", data := .seq (its ++ its2).toArray } (.tup (_ ++ _))) (fun b ob q => Heap.get?_push_of_some _ q) (Nat.le_refl _) ?_, rfl,
                kk ρ _ (.ref s.heap.objs.size) (Fut.updN hf) (R.laid hf) (.tup (.inl (.inr ⟨_, upd_same⟩)) ((da.append db).fut (Fut.updN hf))) ⟨_, rfl, _, rfl, rfl, .inl ⟨_, upd_same⟩⟩⟩
              exact ⟨Heap.get?_push_size _ rfl, by rw [List.length_append, r1.length, r2.length]; exact hz, _, r1.append r2, IsTup.new _ _⟩
    · cases e
  refine PE.imp (pe_op op ha hb) fun σ H Q q => ?_
  obtain ⟨ρ, h, env, r, re, w⟩ := q
  refine ⟨ρ, h, env, r, re, Wp.bind w fun x h1 ρ1 H1 vx f1 r1 q1 w1 => ?_⟩
  refine ⟨ρ1, h1, env, r1, re.fut f1, Wp.bind w1 fun y h2 ρ2 H2 vy f2 r2 q2 w2 => ?_⟩
  cases ec : catN x y h2 with
  | none => rw [ec] at w2; exact w2.elim
  | some p =>
    rw [ec] at w2
    obtain ⟨b0, e0, nd⟩ := q1.2
    exact ⟨ρ2, h2, x, y, p.1, p.2, r2, q1.1.fut f2, q2, ⟨b0, e0, nd.fut f2⟩, by rw [ec], fun ρ3 H3 v3 f3 r3 q3 n3 => w2 ρ3 H3 v3 f3 r3 ⟨q3, n3⟩⟩
end

/-! ### calls with keywords and defaults -/
/-- where a parameter's value comes from: a written value, a keyword's, a default -/
inductive Src where
  | p (i : Nat) | k (i : Nat) | d (i : Nat)
def Src.get {α : Type} (us ds ws : List α) : Src → Option α
  | .p i => us[i]?
  | .k i => ws[i]?
  | .d i => ds[i]?
def arr {α : Type} (S : List Src) (us ds ws : List α) : List α := S.filterMap (Src.get us ds ws)
theorem arr_none {α : Type} {s : Src} {S : List Src} {us ds ws : List α} (e : s.get us ds ws = none) : arr (s :: S) us ds ws = arr S us ds ws := List.filterMap_cons_none e
theorem arr_some {α : Type} {s : Src} {S : List Src} {us ds ws : List α} {x : α} (e : s.get us ds ws = some x) : arr (s :: S) us ds ws = x :: arr S us ds ws := List.filterMap_cons_some e
theorem RDs.get_none {K : PySem.W.Frag} {G : Nat → Option Addr} {ρ : List Addr} {H : Hp} {d : List D} {v : List V} {i : Nat} (r : RDs K G ρ H d v) (e : d[i]? = none) : v[i]? = none := by
  rw [List.getElem?_eq_none_iff] at e ⊢
  rw [← r.length]; exact e
theorem RDs.one {K : PySem.W.Frag} {G : Nat → Option Addr} {ρ : List Addr} {H : Hp} {xs : List D} {vs : List V} (r : RDs K G ρ H xs vs) (i : Nat) : (xs[i]? = none ∧ vs[i]? = none) ∨ ∃ x v, xs[i]? = some x ∧ vs[i]? = some v ∧ RD K G ρ H x v := by
  cases e : xs[i]? with
  | none => exact .inl ⟨rfl, r.get_none e⟩
  | some x => obtain ⟨v, e1, e2⟩ := r.get e; exact .inr ⟨x, v, rfl, e1, e2⟩
theorem RDs.src {K : PySem.W.Frag} {G : Nat → Option Addr} {ρ : List Addr} {H : Hp} {us ds ws : List D} {vu vd vw : List V} (a : RDs K G ρ H us vu) (b : RDs K G ρ H ds vd) (c : RDs K G ρ H ws vw) :
    ∀ s : Src, (s.get us ds ws = none ∧ s.get vu vd vw = none) ∨ ∃ x v, s.get us ds ws = some x ∧ s.get vu vd vw = some v ∧ RD K G ρ H x v
  | .p i => a.one i
  | .k i => c.one i
  | .d i => b.one i
theorem RDs.arr {K : PySem.W.Frag} {G : Nat → Option Addr} {ρ : List Addr} {H : Hp} {us ds ws : List D} {vu vd vw : List V} (a : RDs K G ρ H us vu) (b : RDs K G ρ H ds vd) (c : RDs K G ρ H ws vw) : ∀ S : List Src, RDs K G ρ H (arr S us ds ws) (arr S vu vd vw)
  | [] => .nil
  | s :: S => by
    have ih := RDs.arr a b c S
    rcases RDs.src a b c s with ⟨e1, e2⟩ | ⟨x, v, e1, e2, e3⟩
    · rw [arr_none e1, arr_none e2]; exact ih
    · rw [arr_some e1, arr_some e2]; exact .cons e3 ih
/-- how a def's arguments bind: n written values, keywords ks, the defaults dds -/
structure KB (K : PySem.W.Frag) (G : Nat → Option Addr) (fd : FuncData) (ps : List Str) (n : Nat) (ks : List Str) (S : List Src) (dds : List D) : Prop where
  ex : ∃ (mv : List Value) (dvs : List V), KBn K fd ps n ks (fun us ws => arr S us mv ws) (fun vs zs => arr S vs dvs zs) ∧ ∀ ρ H, RDs K G ρ H dds dvs
theorem KB.of {K : PySem.W.Frag} {G : Nat → Option Addr} {fd : FuncData} {ps : List Str} {n : Nat} {S : List Src} (b : Binds K fd ps []) (hn : ps.length = n) (hS : ∀ us : List Value, us.length = n → arr S us [] [] = us) (hS2 : ∀ {us : List V}, us.length = n → arr S us [] [] = us)
    (hr : ∀ {vs : List V} {us : List Value} {zs : List V} {ws : List Value}, Vals vs us → Vals zs ws → Vals (arr S vs [] zs) (arr S us [] ws)) : KB K G fd ps n [] S [] :=
  ⟨[], [], ⟨fun s us ws X l1 l2 => by
    have ew : ws = [] := List.length_eq_zero_iff.mp l2
    subst ew
    have := b s us X (by rw [List.append_nil, l1, hn])
    rw [List.append_nil] at this
    show BindsTo s fd ⟨us, []⟩ (ps.zip (arr S us [] []))
    rw [hS us l1]; exact this, hr⟩, fun _ _ => .nil⟩
theorem vals_one {ys : List V} {zs : List Value} (r : Vals ys zs) (i : Nat) : (ys[i]? = none ∧ zs[i]? = none) ∨ ∃ x v, ys[i]? = some x ∧ zs[i]? = some v ∧ RelV x v := by
  cases e : ys[i]? with
  | none => exact .inl ⟨rfl, r.none_of e⟩
  | some x => obtain ⟨v, e1, e2⟩ := r.get e; exact .inr ⟨x, v, rfl, e1, e2⟩
theorem vals_src {vs ds ws : List V} {us es xs : List Value} (a : Vals vs us) (b : Vals ds es) (c : Vals ws xs) : ∀ s : Src, (s.get vs ds ws = none ∧ s.get us es xs = none) ∨ ∃ x v, s.get vs ds ws = some x ∧ s.get us es xs = some v ∧ RelV x v
  | .p i => vals_one a i
  | .k i => vals_one c i
  | .d i => vals_one b i
theorem vals_arr {vs ds ws : List V} {us es xs : List Value} (a : Vals vs us) (b : Vals ds es) (c : Vals ws xs) : ∀ S : List Src, Vals (arr S vs ds ws) (arr S us es xs)
  | [] => .nil
  | s :: S => by
    have ih := vals_arr a b c S
    rcases vals_src a b c s with ⟨e1, e2⟩ | ⟨x, v, e1, e2, e3⟩
    · rw [arr_none e1, arr_none e2]; exact ih
    · rw [arr_some e1, arr_some e2]; exact .cons e3 ih

theorem KB.kwo {K : PySem.W.Frag} {G : Nat → Option Addr} {fd : FuncData} {ps : List Str} {Dx : Addr} (n : Nat) (ks : List Str) (ms : List (Str × V)) (dds : List D) (S : List Src) (hms : ∀ q ∈ ms, ∃ u, PySem.W.nsIn K Dx q.1 = some (some u) ∧ RelV q.2 u) (hd : ∀ ρ H, RDs K G ρ H dds (ms.map (·.2)))
    (h : ∀ us mv ws : List Value, us.length = n → mv.length = ms.length → ws.length = ks.length → KwChain Dx ((ms.map (·.1)).zip mv) (bindArgs fd ⟨us, ks.zip ws⟩) (ps.zip (arr S us mv ws))) : KB K G fd ps n ks S dds := by
  obtain ⟨mv, hl, rk, hks⟩ := kwd_vals hms
  exact ⟨mv, ms.map (·.2), ⟨fun s us ws X l1 l2 => BindsTo.of_looks fun M => KwChain.looks X hks (h us mv ws l1 hl l2), fun r1 r2 => vals_arr r1 rk r2 S⟩, hd⟩
theorem kwo_nil {K : PySem.W.Frag} {Dx : Addr} : ∀ q ∈ ([] : List (Str × V)), ∃ u, PySem.W.nsIn K Dx q.1 = some (some u) ∧ RelV q.2 u := fun q h => nomatch h
theorem kwo_one {K : PySem.W.Frag} {Dx : Addr} {x : Str} {v : V} {u : Value} (h : PySem.W.nsIn K Dx x = some (some u)) (r : RelV v u) : ∀ q ∈ [(x, v)], ∃ u, PySem.W.nsIn K Dx q.1 = some (some u) ∧ RelV q.2 u := fun q hq => by
  rw [List.mem_singleton.mp hq]; exact ⟨u, h, r⟩
theorem rd_unit {K : PySem.W.Frag} {G : Nat → Option Addr} {T : Addr} {od : Option Addr} {n : Nat} {sl : Array (Option Value)} (h : K.lookup T = some ⟨.type "tuple", od, .seq #[] n, sl⟩) (ρ : List Addr) (H : Hp) : RDs K G ρ H [.tup []] [.ref T] :=
  .cons (.tup (.inr ⟨_, #[], n, h, rfl, rfl, by rw [sizeLine_eq]; simp, .nil⟩) .nil) .nil

section
variable {X : Cx} {G : Nat → Option Addr} {W : WX} {k n m : Nat} {f C : Addr} {fd : FuncData} {ps ks : List Str} {x : Str} {p pos apos : Pos} {e o : Expr} {es : List Expr} {kws : List Keyword} {fm : Fn} {S : List Src} {dds : List D} {ms mk : Ma}
theorem mk_nil : PK X [] (RdA X.K G W aNil) := ⟨fun pos pins s σ H Q I q => pk_nil.run pos pins s σ H Q I (by
  obtain ⟨ρ, h, env, r, re, w⟩ := q
  exact w.ret r .nil)⟩
theorem mk_cons {nm : Option Str} {kpos : Pos} {ma : Mx} (ha : PE X e (RdE X.K G W ma)) (hr : PK X kws (RdA X.K G W mk)) : PK X (⟨nm, e, kpos⟩ :: kws) (RdA X.K G W (aCons ma mk)) := ⟨fun pos pins s σ H Q I q => (pk_cons ha hr).run pos pins s σ H Q I (by
  obtain ⟨ρ, h, env, r, re, w⟩ := q
  refine ⟨ρ, h, env, r, re, Wp.bind (f := fun x h1 => (mk env h1).bind fun xs h2 => .ok (x :: xs) h2) w fun a h1 ρ1 H1 v1 f1 r1 q1 w1 => ?_⟩
  refine ⟨ρ1, h1, env, r1, re.fut f1, Wp.bind w1 fun xs h2 ρ2 H2 vs f2 r2 q2 w2 => ?_⟩
  exact w2.ret r2 (.cons (q1.fut f2) q2))⟩
/-- the callee runs, keywords -/
theorem run_GK {sp : Sp} {E : XK} {pins : List (Addr × Obj)} {σ : L2.St} {H : Hp} {s : Shared} {Q : VK} {us ws : List Value} {vs zs : List V} {g : List Value → List Value → List Value} {gV : List V → List V → List V} (F : FnG X.prog X.w X.K X.mg X.base k f fd ps sp) (hgd : X.A.guards = some []) (hr : Room k X.A) (hb : KBn X.K fd ps n ks g gV)
    (hx : PassesAt (L2.CX X.prog X.w) X σ E) (I : Inv X pins σ H s) (r : Vals vs us) (rz : Vals zs ws) (l1 : vs.length = n) (l2 : zs.length = ks.length) (h : sp (gV vs zs) H Q E) : wpAny (model X.prog X.w) X.A (call (.ref f) us (ks.zip ws)) (EP X pins σ Q) X.xe s := by
  have r2 := hb.rel r rz
  refine wpAny_call (codeAny_mono (F.run X.A X.stack s H ⟨us, ks.zip ws⟩ (g us ws) (gV vs zs) Q E hr hgd I.env0 (hb.to s us ws I.kIn (r.length.symm.trans l1) (rz.length.symm.trans l2)) r2 h) fun r s' hq => ?_)
  cases r with
  | error e => exact hx pins H s e s' I hq
  | ok fl =>
    cases fl with
    | ret u => exact I.after hq
    | next => exact False.elim hq
    | brk => exact False.elim hq
    | cont => exact False.elim hq
theorem run_mkGK {sp : Sp} {E : XK} {pins : List (Addr × Obj)} {σ : L2.St} {H : Hp} {s : Shared} {Q : VK} {us ws : List Value} {vs zs : List V} {g : List Value → List Value → List Value} {gV : List V → List V → List V} (M : Mk X.K C f) (F : FnG X.prog X.w X.K X.mg X.base k f fd ps sp) (hgd : X.A.guards = some []) (hr : Room (k + 1) X.A) (hb : KBn X.K fd ps (n + 1) ks g gV)
    (hx : PassesAt (L2.CX X.prog X.w) X σ E) (I : Inv X pins σ H s) (r : Vals vs us) (rz : Vals zs ws) (l1 : vs.length = n) (l2 : zs.length = ks.length)
    (h : ∀ x dx, H x = none → H dx = none → dx ≠ x → sp (gV (.ref x :: vs) zs) (upd (upd H dx (.own x)) x (.ins C dx [])) (fun v H2 => v = .non ∧ Q (.ref x) H2) E) :
    wpAny (model X.prog X.w) X.A (call (.ref C) us (ks.zip ws)) (EP X pins σ Q) X.xe s := by
  have hq := h (s.heap.objs.size + 1) s.heap.objs.size (I.hok.fresh (Nat.le_succ _)) (I.hok.fresh (Nat.le_refl _)) (Nat.ne_of_lt (Nat.lt_succ_self _))
  have I2 := Inv.made (C := C) I
  have r1 : Vals (V.ref (s.heap.objs.size + 1) :: vs) (Value.ref (s.heap.objs.size + 1) :: us) := .cons rfl r
  have r2 := hb.rel r1 rz
  have e1 : (Value.ref (s.heap.objs.size + 1) :: us).length = n + 1 := r1.length.symm.trans (congrArg Nat.succ l1)
  have e2 : ws.length = ks.length := rz.length.symm.trans l2
  refine wpAny_call (make_map (f := f) I.kIn M.makes M.init (beq_iff_eq.mp M.fn) (codeAny_mono (F.run _ X.stack _ _ ⟨Value.ref (s.heap.objs.size + 1) :: us, ks.zip ws⟩ (g (Value.ref (s.heap.objs.size + 1) :: us) ws) _ _ E (hr.make C us (ks.zip ws)) (by exact hgd)
    (I2.env0.make C us (ks.zip ws)) (hb.to _ (Value.ref (s.heap.objs.size + 1) :: us) ws I2.kIn e1 e2) r2 hq) fun r s' hq' => ?_))
  cases r with
  | error e => exact hx pins _ _ e s' I2 hq'
  | ok fl =>
    cases fl with
    | ret u =>
      obtain ⟨v, H', I3, rv, ev, q3⟩ := I2.after hq'
      subst ev
      exact ⟨rv, ⟨V.ref (s.heap.objs.size + 1), H', I3, rfl, q3⟩⟩
    | next => exact False.elim hq'
    | brk => exact False.elim hq'
    | cont => exact False.elim hq'

/-! #### a def -/
def eCallK (fm : Fn) (S : List Src) (dds : List D) (n m : Nat) (ms mk : Ma) : Mx := fun env h => (ms env h).bind fun us h1 => (mk env h1).bind fun ws h2 => bif Nat.beq us.length n && Nat.beq ws.length m then fm (arr S us dds ws) h2 else .bad
theorem two_lens {a b c d : Nat} (e : (Nat.beq a b && Nat.beq c d) = true) : a = b ∧ c = d := by
  rw [Bool.and_eq_true] at e
  exact ⟨Nat.eq_of_beq_eq_true e.1, Nat.eq_of_beq_eq_true e.2⟩
theorem arr_len {S : List Src} {us dds ws : List D} {a b c : Nat} (hl : ∀ us' ws' : List D, us'.length = a → ws'.length = b → (arr S us' dds ws').length = c) (h1 : us.length = a) (h2 : ws.length = b) : (arr S us dds ws).length = c := hl _ _ h1 h2
theorem me_callK {kn : Nat} {l : Nat} (F : FnG X.prog X.w X.K X.mg X.base k f fd ps (spM X.K G l fm)) (hgd : X.A.guards = some []) (tk : Takes X W) (hr : Room k X.A) (hg : Gl X x) (hm : X.mg x = some (.ref f)) (hk : PySem.W.keepIn X.K (.ref f) = true) (hb : KB X.K G fd ps n ks S dds)
    (hl : ∀ us ws : List D, us.length = n → ws.length = ks.length → (arr S us dds ws).length = l)
    (ha : PA X (e :: es) (RdA X.K G W ms)) (hkw : PK X kws (RdA X.K G W mk)) (hall : (backToKw pos (keywordEach kws X.env)).all (·.1.isSome) = true := by rfl) (hks : (backToKw pos (keywordEach kws X.env)).filterMap (·.1) = ks := by rfl)
    (hdb : (x == ("__debug__" : Str)) = false := by decide) (he : starEach (e :: es) X.env = (false, eval e X.env) :: starEach es X.env := by rfl)
    (hpl : ((backTo pos (starEach (e :: es) X.env)).any (·.1) || (backToKw pos (keywordEach kws X.env)).any (·.1.isNone)) = false := by rfl) (hkn : ks.length = kn := by rfl) :
    PE X (.Call (.Name x p) (e :: es) kws pos) (RdE X.K G W (eCallK fm S dds n kn ms mk)) := by
  subst hkn
  obtain ⟨mv, dvs, hbn, hD⟩ := hb.ex
  refine ⟨fun pins s σ H Q I q => ?_⟩
  obtain ⟨ρ, h, env, r, re, w⟩ := q
  refine wpAny_Call_Name_kw (ld_glob I hg hm ?_ hdb)
  refine PySem.W.callWith_KW (h₀ := X.base) I.ok.mod.kin hk hall (thn (ha.run pos pins s σ H (fun vs' H1' => RdA X.K G W mk σ H1' fun zs H2 => vs'.length = n ∧ zs.length = ks.length ∧ spM X.K G l fm (arr S vs' dvs zs) H2 Q (WE W σ)) I ⟨ρ, h, env, r, re, Wp.bind w fun us h1 ρ1 H1 vs f1 r1 q1 w1 => ?_⟩) fun us s1 ⟨vs, H1, I1, r1, q⟩ => ?_) hpl he
  · refine ⟨ρ1, h1, env, r1, re.fut f1, Wp.bind w1 fun ws h2 ρ2 H2 zs f2 r2 q2 w2 => ?_⟩
    cases el : (Nat.beq us.length n && Nat.beq ws.length ks.length) with
    | false => rw [el] at w2; exact w2.elim
    | true =>
      rw [el] at w2
      obtain ⟨l1, l2⟩ := two_lens el
      exact ⟨(q1.length.symm.trans l1), (q2.length.symm.trans l2), ρ2, h2, arr S us dds ws, r2, (q1.fut f2).arr (hD _ _) q2 S, hl _ _ l1 l2, w2⟩
  · refine thn (hkw.run pos pins s1 σ H1 _ I1 q) fun ws s2 ⟨zs, H2, I2, rz, l1, l2, q2⟩ => ⟨I2.kIn, ?_⟩
    rw [hks]
    exact run_GK F hgd hr hbn (passAt tk σ) I2 r1 rz l1 l2 q2
theorem me_callK0 {kn : Nat} {l : Nat} (F : FnG X.prog X.w X.K X.mg X.base k f fd ps (spM X.K G l fm)) (hgd : X.A.guards = some []) (tk : Takes X W) (hr : Room k X.A) (hg : Gl X x) (hm : X.mg x = some (.ref f)) (hk : PySem.W.keepIn X.K (.ref f) = true) (hb : KB X.K G fd ps 0 ks S dds)
    (hl : ∀ us ws : List D, us.length = 0 → ws.length = ks.length → (arr S us dds ws).length = l)
    (hkw : PK X kws (RdA X.K G W mk)) (hall : (backToKw pos (keywordEach kws X.env)).all (·.1.isSome) = true := by rfl) (hks : (backToKw pos (keywordEach kws X.env)).filterMap (·.1) = ks := by rfl)
    (hdb : (x == ("__debug__" : Str)) = false := by decide)
    (hpl : ((backTo pos (starEach [] X.env)).any (·.1) || (backToKw pos (keywordEach kws X.env)).any (·.1.isNone)) = false := by rfl) (hkn : ks.length = kn := by rfl) :
    PE X (.Call (.Name x p) [] kws pos) (RdE X.K G W (eCallK fm S dds 0 kn aNil mk)) := by
  subst hkn
  obtain ⟨mv, dvs, hbn, hD⟩ := hb.ex
  refine ⟨fun pins s σ H Q I q => ?_⟩
  obtain ⟨ρ, h, env, r, re, w⟩ := q
  refine wpAny_Call_Name_kw (ld_glob I hg hm ?_ hdb)
  refine PySem.W.callWith_KW0 (h₀ := X.base) I.ok.mod.kin hk hall (thn (hkw.run pos pins s σ H (fun zs H2 => zs.length = ks.length ∧ spM X.K G l fm (arr S [] dvs zs) H2 Q (WE W σ)) I ⟨ρ, h, env, r, re, Wp.bind w fun ws h2 ρ2 H2 zs f2 r2 q2 w2 => ?_⟩) fun ws s2 ⟨zs, H2, I2, rz, l2, q2⟩ => ⟨I2.kIn, ?_⟩) hpl
  · cases el : (Nat.beq ([] : List D).length 0 && Nat.beq ws.length ks.length) with
    | false => rw [el] at w2; exact w2.elim
    | true =>
      rw [el] at w2
      obtain ⟨l1, l2⟩ := two_lens el
      exact ⟨(q2.length.symm.trans l2), ρ2, h2, arr S [] dds ws, r2, RDs.nil.arr (hD _ _) q2 S, hl _ _ l1 l2, w2⟩
  · rw [hks]
    exact run_GK (us := []) (vs := []) F hgd hr hbn (passAt tk σ) I2 .nil rz rfl l2 q2

/-! #### a method -/
/-- the instance's class is C; no attribute hides the method -/
def isIns (C : Nat) (mt : Str) (x : D) (h : MH) : Bool := match x with
  | .ref i => match h.get i with
    | some (.ins C' fs) => Nat.beq C' C && (fs.lookup mt).isNone
    | _ => false
  | _ => false
def eMeth (C : Nat) (mt : Str) (fm : Fn) (S : List Src) (dds : List D) (n m : Nat) (mo : Mx) (ms mk : Ma) : Mx := fun env h => (mo env h).bind fun x h0 => bif isIns C mt x h0 then (ms env h0).bind fun us h1 => (mk env h1).bind fun ws h2 => bif Nat.beq us.length n && Nat.beq ws.length m then fm (arr S (x :: us) dds ws) h2 else .bad else .bad
theorem isIns_ok {K : PySem.W.Frag} {ρ : List Addr} {H : Hp} {h : MH} {C : Nat} {mt : Str} {x : D} {v : V} {c : Addr} (hc : G C = some c) (R : Rel K G ρ h H) (q : RD K G ρ H x v) (e : isIns C mt x h = true) : ∃ a dx fs, v = .ref a ∧ H a = some (.ins c dx fs) ∧ fs.lookup mt = none := by
  unfold isIns at e
  split at e
  · rename_i i
    split at e
    · rename_i C' fs g1
      rw [Bool.and_eq_true] at e
      obtain ⟨e1, e2⟩ := e
      obtain rfl := Nat.eq_of_beq_eq_true e1
      obtain ⟨a, c', dx, vs, p1, p2, p3, p4⟩ := R.ins g1
      rw [hc] at p2; cases p2
      cases q with
      | ref ha =>
        rw [ha] at p1; cases p1
        exact ⟨_, dx, vs, rfl, p3, p4.look_none (by simpa using e2)⟩
    · cases e
  · cases e
theorem me_meth {kn : Nat} {l Cn : Nat} {mt : Str} {mo : Mx} {pl : Sem Bool} (hG : G Cn = some C) (c : Cls X.K C) (hm : Meth X.K C mt f) (F : FnG X.prog X.w X.K X.mg X.base k f fd ps (spM X.K G l fm)) (hgd : X.A.guards = some []) (tk : Takes X W) (hr : Room k X.A) (hb : KB X.K G fd ps (n + 1) ks S dds)
    (hl : ∀ us ws : List D, us.length = n + 1 → ws.length = ks.length → (arr S us dds ws).length = l)
    (ho : PE X o (RdE X.K G W mo)) (ha : PA X (e :: es) (RdA X.K G W ms)) (hkw : PK X kws (RdA X.K G W mk)) (hall : (backToKw pos (keywordEach kws X.env)).all (·.1.isSome) = true := by rfl) (hks : (backToKw pos (keywordEach kws X.env)).filterMap (·.1) = ks := by rfl)
    (he : starEach (e :: es) X.env = (false, eval e X.env) :: starEach es X.env := by rfl)
    (hpl : ((backTo pos (starEach (e :: es) X.env)).any (·.1) || (backToKw pos (keywordEach kws X.env)).any (·.1.isNone)) = false := by rfl)
    (ht : eval (.Call (.Attribute o mt apos) (e :: es) kws pos) X.env = (do
      let ov ← eval o X.env
      standAt apos.atName
      let (f, first) ← holding [ov] (getMethod ov mt pl)
      callWith pos f first (backTo pos (starEach (e :: es) X.env)) (backToKw pos (keywordEach kws X.env))) := by rfl) (hkn : ks.length = kn := by rfl) :
    PE X (.Call (.Attribute o mt apos) (e :: es) kws pos) (RdE X.K G W (eMeth Cn mt fm S dds n kn mo ms mk)) := by
  subst hkn
  obtain ⟨mv, dvs, hbn, hD⟩ := hb.ex
  refine ⟨fun pins s σ H Q I q => ?_⟩
  obtain ⟨ρ, h, env, r, re, w⟩ := q
  refine PySem.W.methodCall_KW (pl := pl) (thn (ho.run pins s σ H (fun x H1 => ∃ a dx fs, x = .ref a ∧ H1 a = some (.ins C dx fs) ∧ fs.lookup mt = none ∧ RdA X.K G W ms σ H1 fun vs H2 => RdA X.K G W mk σ H2 fun zs H3 => (V.ref a :: vs).length = n + 1 ∧ zs.length = ks.length ∧ spM X.K G l fm (arr S (V.ref a :: vs) dvs zs) H3 Q (WE W σ)) I
    ⟨ρ, h, env, r, re, Wp.bind w fun x h0 ρ0 H0 vx f0 r0 q0 w0 => ?_⟩) fun u s1 ⟨x, H1, I1, rx, a, dx, fs, ex, ea, l0, q⟩ => ?_) ht
  · cases ei : isIns Cn mt x h0 with
    | false => rw [ei] at w0; exact w0.elim
    | true =>
      rw [ei] at w0
      obtain ⟨a, dx, fs, rfl, e1, e2⟩ := isIns_ok hG r0 q0 ei
      refine ⟨a, dx, fs, rfl, e1, e2, ρ0, h0, env, r0, re.fut f0, Wp.bind w0 fun us h1 ρ1 H1 vs f1 r1 q1 w1 => ?_⟩
      refine ⟨ρ1, h1, env, r1, (re.fut f0).fut f1, Wp.bind w1 fun ws h2 ρ2 H2 zs f2 r2 q2 w2 => ?_⟩
      cases el : (Nat.beq us.length n && Nat.beq ws.length ks.length) with
      | false => rw [el] at w2; exact w2.elim
      | true =>
        rw [el] at w2
        obtain ⟨l1, l2⟩ := two_lens el
        have qa : RDs X.K G ρ2 H2 (x :: us) (V.ref a :: vs) := .cons ((q0.fut f1).fut f2) (q1.fut f2)
        exact ⟨congrArg Nat.succ (q1.length.symm.trans l1), q2.length.symm.trans l2, ρ2, h2, arr S (x :: us) dds ws, r2, qa.arr (hD _ _) q2 S, hl _ _ (congrArg Nat.succ l1) l2, w2⟩
  · subst ex
    obtain rfl : u = Value.ref a := rx
    refine getmeth_ok I1 ea c hm l0 ?_
    refine PySem.W.callWith_KW (first := [.ref a]) (h₀ := X.base) I.ok.mod.kin hm.kp hall (thn (ha.run pos pins s1 σ H1 _ I1 q) fun us s2 ⟨vs, H2, I2, r2, q2⟩ => ?_) hpl he
    refine thn (hkw.run pos pins s2 σ H2 _ I2 q2) fun ws s3 ⟨zs, H3, I3, rz, l1, l2, q3⟩ => ⟨I3.kIn, ?_⟩
    rw [hks]
    exact run_GK (us := .ref a :: us) (vs := .ref a :: vs) F hgd hr hbn (passAt tk σ) I3 (.cons rfl r2) rz l1 l2 q3
theorem me_meth0 {kn : Nat} {l Cn : Nat} {mt : Str} {mo : Mx} {pl : Sem Bool} (hG : G Cn = some C) (c : Cls X.K C) (hm : Meth X.K C mt f) (F : FnG X.prog X.w X.K X.mg X.base k f fd ps (spM X.K G l fm)) (hgd : X.A.guards = some []) (tk : Takes X W) (hr : Room k X.A) (hb : KB X.K G fd ps 1 ks S dds)
    (hl : ∀ us ws : List D, us.length = 1 → ws.length = ks.length → (arr S us dds ws).length = l)
    (ho : PE X o (RdE X.K G W mo)) (hkw : PK X kws (RdA X.K G W mk)) (hall : (backToKw pos (keywordEach kws X.env)).all (·.1.isSome) = true := by rfl) (hks : (backToKw pos (keywordEach kws X.env)).filterMap (·.1) = ks := by rfl)
    (hpl : ((backTo pos (starEach [] X.env)).any (·.1) || (backToKw pos (keywordEach kws X.env)).any (·.1.isNone)) = false := by rfl)
    (ht : eval (.Call (.Attribute o mt apos) [] kws pos) X.env = (do
      let ov ← eval o X.env
      standAt apos.atName
      let (f, first) ← holding [ov] (getMethod ov mt pl)
      callWith pos f first (backTo pos (starEach [] X.env)) (backToKw pos (keywordEach kws X.env))) := by rfl) (hkn : ks.length = kn := by rfl) :
    PE X (.Call (.Attribute o mt apos) [] kws pos) (RdE X.K G W (eMeth Cn mt fm S dds 0 kn mo aNil mk)) := by
  subst hkn
  obtain ⟨mv, dvs, hbn, hD⟩ := hb.ex
  refine ⟨fun pins s σ H Q I q => ?_⟩
  obtain ⟨ρ, h, env, r, re, w⟩ := q
  refine PySem.W.methodCall_KW (pl := pl) (thn (ho.run pins s σ H (fun x H1 => ∃ a dx fs, x = .ref a ∧ H1 a = some (.ins C dx fs) ∧ fs.lookup mt = none ∧ RdA X.K G W mk σ H1 fun zs H3 => zs.length = ks.length ∧ spM X.K G l fm (arr S [V.ref a] dvs zs) H3 Q (WE W σ)) I
    ⟨ρ, h, env, r, re, Wp.bind w fun x h0 ρ0 H0 vx f0 r0 q0 w0 => ?_⟩) fun u s1 ⟨x, H1, I1, rx, a, dx, fs, ex, ea, l0, q⟩ => ?_) ht
  · cases ei : isIns Cn mt x h0 with
    | false => rw [ei] at w0; exact w0.elim
    | true =>
      rw [ei] at w0
      obtain ⟨a, dx, fs, rfl, e1, e2⟩ := isIns_ok hG r0 q0 ei
      refine ⟨a, dx, fs, rfl, e1, e2, ρ0, h0, env, r0, re.fut f0, Wp.bind (RA := RDs X.K G) w0 fun ws h2 ρ2 H2 zs f2 r2 q2 w2 => ?_⟩
      cases el : (Nat.beq ([] : List D).length 0 && Nat.beq ws.length ks.length) with
      | false => rw [el] at w2; exact w2.elim
      | true =>
        rw [el] at w2
        obtain ⟨l1, l2⟩ := two_lens el
        have qa : RDs X.K G ρ2 H2 [x] [V.ref a] := .cons (q0.fut f2) .nil
        exact ⟨q2.length.symm.trans l2, ρ2, h2, arr S [x] dds ws, r2, qa.arr (hD _ _) q2 S, hl _ _ rfl l2, w2⟩
  · subst ex
    obtain rfl : u = Value.ref a := rx
    refine getmeth_ok I1 ea c hm l0 ?_
    refine PySem.W.callWith_KW0 (first := [.ref a]) (h₀ := X.base) I.ok.mod.kin hm.kp hall (thn (hkw.run pos pins s1 σ H1 _ I1 q) fun ws s3 ⟨zs, H3, I3, rz, l2, q3⟩ => ⟨I3.kIn, ?_⟩) hpl
    rw [hks]
    exact run_GK (us := [.ref a]) (vs := [.ref a]) F hgd hr hbn (passAt tk σ) I3 (.cons rfl .nil) rz rfl l2 q3

/-! #### a new instance -/
def mkD (Cn : Nat) (fm : Fn) (S : List Src) (dds us ws : List D) (h : MH) : Res D := match fm (arr S (.ref h.n :: us) dds ws) (h.add (.ins Cn [])) with
  | .ok .non h1 => .ok (.ref h.n) h1
  | .exc C fs h1 => .exc C fs h1
  | _ => .bad
def eMake (Cn : Nat) (fm : Fn) (S : List Src) (dds : List D) (n m : Nat) (ms mk : Ma) : Mx := fun env h => (ms env h).bind fun us h1 => (mk env h1).bind fun ws h2 => bif Nat.beq us.length n && Nat.beq ws.length m then mkD Cn fm S dds us ws h2 else .bad
theorem mkD_ok {K : PySem.W.Frag} {ρ : List Addr} {H : Hp} {h : MH} {l Cn : Nat} {us ws : List D} {vs zs dvs : List V} {Q : VK} {E : XK} (hG : G Cn = some C) (R : Rel K G ρ h H) (q1 : RDs K G ρ H us vs) (hD : ∀ ρ H, RDs K G ρ H dds dvs) (q2 : RDs K G ρ H ws zs)
    (hl : (arr S (.ref h.n :: us) dds ws).length = l) (w : Wp K G (RD K G) ρ H (mkD Cn fm S dds us ws h) Q E) (x dx : Addr) (hx : H x = none) (hdx : H dx = none) (ne : dx ≠ x) :
    spM K G l fm (arr S (V.ref x :: vs) dvs zs) (upd (upd H dx (.own x)) x (.ins C dx [])) (fun v H2 => v = .non ∧ Q (.ref x) H2) E := by
  have f1 : Fut K ρ H ρ (upd H dx (.own x)) := Fut.updN hdx
  have hx1 : upd H dx (.own x) x = none := by rw [upd_ne (Ne.symm ne)]; exact hx
  have f2 : Fut K ρ (upd H dx (.own x)) (ρ ++ [x]) (upd (upd H dx (.own x)) x (.ins C dx [])) := Fut.upd hx1
  have R1 : Rel K G ρ h (upd H dx (.own x)) := R.laid hdx
  have R2 : Rel K G (ρ ++ [x]) (h.add (.ins Cn [])) (upd (upd H dx (.own x)) x (.ins C dx [])) := R1.new hx1 rfl ⟨C, dx, [], hG, upd_same, .nil, fun _ _ z _ => nomatch z⟩
  have at_ : (ρ ++ [x])[h.n]? = some x := by rw [← R.len]; simp
  have fu := f1.trans f2
  refine ⟨ρ ++ [x], h.add (.ins Cn []), arr S (.ref h.n :: us) dds ws, R2, (RDs.cons (.ref at_) (q1.fut fu)).arr (hD _ _) (q2.fut fu) S, hl, ?_⟩
  unfold mkD at w
  cases ef : fm (arr S (.ref h.n :: us) dds ws) (h.add (.ins Cn [])) with
  | bad => rw [ef] at w; exact w.elim
  | exc C' fs h1 => rw [ef] at w; exact fun ρ' H' c d eg fx rx hxx => w ρ' H' c d eg (fu.trans fx) rx hxx
  | ok v h1 =>
    rw [ef] at w
    cases v with
    | non =>
      intro ρ' H' v' fx rx qv
      cases qv
      exact ⟨rfl, w ρ' H' (.ref x) (fu.trans fx) rx (.ref (fx.at at_))⟩
    | _ => exact w.elim
theorem me_make {kn : Nat} {l Cn : Nat} (hG : G Cn = some C) (M : Mk X.K C f) (F : FnG X.prog X.w X.K X.mg X.base k f fd ps (spM X.K G l fm)) (hgd : X.A.guards = some []) (tk : Takes X W) (hr : Room (k + 1) X.A) (hg : Gl X x) (hm : X.mg x = some (.ref C)) (hb : KB X.K G fd ps (n + 1) ks S dds)
    (hl : ∀ us ws : List D, us.length = n + 1 → ws.length = ks.length → (arr S us dds ws).length = l)
    (ha : PA X (e :: es) (RdA X.K G W ms)) (hkw : PK X kws (RdA X.K G W mk)) (hall : (backToKw pos (keywordEach kws X.env)).all (·.1.isSome) = true := by rfl) (hks : (backToKw pos (keywordEach kws X.env)).filterMap (·.1) = ks := by rfl)
    (hdb : (x == ("__debug__" : Str)) = false := by decide) (he : starEach (e :: es) X.env = (false, eval e X.env) :: starEach es X.env := by rfl)
    (hpl : ((backTo pos (starEach (e :: es) X.env)).any (·.1) || (backToKw pos (keywordEach kws X.env)).any (·.1.isNone)) = false := by rfl) (hkn : ks.length = kn := by rfl) :
    PE X (.Call (.Name x p) (e :: es) kws pos) (RdE X.K G W (eMake Cn fm S dds n kn ms mk)) := by
  subst hkn
  obtain ⟨mv, dvs, hbn, hD⟩ := hb.ex
  refine ⟨fun pins s σ H Q I q => ?_⟩
  obtain ⟨ρ, h, env, r, re, w⟩ := q
  refine wpAny_Call_Name_kw (ld_glob I hg hm ?_ hdb)
  refine PySem.W.callWith_KW (h₀ := X.base) I.ok.mod.kin M.kp hall (thn (ha.run pos pins s σ H (fun vs' H1' => RdA X.K G W mk σ H1' fun zs H2 => vs'.length = n ∧ zs.length = ks.length ∧ ∀ x dx, H2 x = none → H2 dx = none → dx ≠ x → spM X.K G l fm (arr S (V.ref x :: vs') dvs zs) (upd (upd H2 dx (.own x)) x (.ins C dx [])) (fun v H3 => v = .non ∧ Q (.ref x) H3) (WE W σ)) I ⟨ρ, h, env, r, re, Wp.bind w fun us h1 ρ1 H1 vs f1 r1 q1 w1 => ?_⟩) fun us s1 ⟨vs, H1, I1, r1, q⟩ => ?_) hpl he
  · refine ⟨ρ1, h1, env, r1, re.fut f1, Wp.bind w1 fun ws h2 ρ2 H2 zs f2 r2 q2 w2 => ?_⟩
    cases el : (Nat.beq us.length n && Nat.beq ws.length ks.length) with
    | false => rw [el] at w2; exact w2.elim
    | true =>
      rw [el] at w2
      obtain ⟨l1, l2⟩ := two_lens el
      exact ⟨q1.length.symm.trans l1, q2.length.symm.trans l2, mkD_ok hG r2 (q1.fut f2) hD q2 (hl _ _ (congrArg Nat.succ l1) l2) w2⟩
  · refine thn (hkw.run pos pins s1 σ H1 _ I1 q) fun ws s2 ⟨zs, H2, I2, rz, l1, l2, q2⟩ => ⟨I2.kIn, ?_⟩
    rw [hks]
    exact run_mkGK M F hgd hr hbn (passAt tk σ) I2 r1 rz l1 l2 q2
theorem me_make0 {kn : Nat} {l Cn : Nat} (hG : G Cn = some C) (M : Mk X.K C f) (F : FnG X.prog X.w X.K X.mg X.base k f fd ps (spM X.K G l fm)) (hgd : X.A.guards = some []) (tk : Takes X W) (hr : Room (k + 1) X.A) (hg : Gl X x) (hm : X.mg x = some (.ref C)) (hb : KB X.K G fd ps 1 ks S dds)
    (hl : ∀ us ws : List D, us.length = 1 → ws.length = ks.length → (arr S us dds ws).length = l)
    (hkw : PK X kws (RdA X.K G W mk)) (hall : (backToKw pos (keywordEach kws X.env)).all (·.1.isSome) = true := by rfl) (hks : (backToKw pos (keywordEach kws X.env)).filterMap (·.1) = ks := by rfl)
    (hdb : (x == ("__debug__" : Str)) = false := by decide)
    (hpl : ((backTo pos (starEach [] X.env)).any (·.1) || (backToKw pos (keywordEach kws X.env)).any (·.1.isNone)) = false := by rfl) (hkn : ks.length = kn := by rfl) :
    PE X (.Call (.Name x p) [] kws pos) (RdE X.K G W (eMake Cn fm S dds 0 kn aNil mk)) := by
  subst hkn
  obtain ⟨mv, dvs, hbn, hD⟩ := hb.ex
  refine ⟨fun pins s σ H Q I q => ?_⟩
  obtain ⟨ρ, h, env, r, re, w⟩ := q
  refine wpAny_Call_Name_kw (ld_glob I hg hm ?_ hdb)
  refine PySem.W.callWith_KW0 (h₀ := X.base) I.ok.mod.kin M.kp hall (thn (hkw.run pos pins s σ H (fun zs H2 => zs.length = ks.length ∧ ∀ x dx, H2 x = none → H2 dx = none → dx ≠ x → spM X.K G l fm (arr S [V.ref x] dvs zs) (upd (upd H2 dx (.own x)) x (.ins C dx [])) (fun v H3 => v = .non ∧ Q (.ref x) H3) (WE W σ)) I
    ⟨ρ, h, env, r, re, Wp.bind w fun ws h2 ρ2 H2 zs f2 r2 q2 w2 => ?_⟩) fun ws s2 ⟨zs, H2, I2, rz, l2, q2⟩ => ⟨I2.kIn, ?_⟩) hpl
  · cases el : (Nat.beq ([] : List D).length 0 && Nat.beq ws.length ks.length) with
    | false => rw [el] at w2; exact w2.elim
    | true =>
      rw [el] at w2
      obtain ⟨l1, l2⟩ := two_lens el
      exact ⟨q2.length.symm.trans l2, mkD_ok hG r2 .nil hD q2 (hl _ _ rfl l2) w2⟩
  · rw [hks]
    exact run_mkGK (us := []) (vs := []) M F hgd hr hbn (passAt tk σ) I2 .nil rz rfl l2 q2
end
end MM

set_option Elab.async false
set_option linter.all false
set_option maxRecDepth 100000
set_option maxHeartbeats 4000000
set_option autoImplicit false
/-! own errors: made, raised, caught -/
namespace MM
open PySem PySem.Spec PyProof.Rows L2

/-! ### the __init__ of an error: nothing, or its fields stored -/
def spI0 : Sp := fun vs H Q _ => ∃ a : Addr, vs = [.ref a] ∧ Q .non H
def spI1 (C : Addr) (f : Str) : Sp := fun vs H Q _ => ∃ (a : Addr) (y : V), vs = [.ref a, y] ∧ H a = some (exo a C none) ∧ ∀ dx, H dx = none → dx ≠ a → Q .non (upd (upd H dx (exd dx [(f, y)])) a (exo a C (some dx)))
def spI2 (C : Addr) (f g : Str) : Sp := fun vs H Q _ => ∃ (a : Addr) (y z : V), vs = [.ref a, y, z] ∧ H a = some (exo a C none) ∧ ∀ dx, H dx = none → dx ≠ a → Q .non (upd (upd (upd H dx (exd dx [(f, y)])) a (exo a C (some dx))) dx (exd dx [(g, z), (f, y)]))
section
variable {K : PySem.W.Frag} {C : Addr} {f g : Str} {vs : List V} {H : Hp} {Q : VK} {E : XK}
theorem init0_rd {N : List Str} (h : spI0 vs H Q E) : tNext { nx := fun _ H' => Q .non H', rt := Q } (start N vs) H := by
  obtain ⟨a, rfl, q⟩ := h
  exact q
theorem init1_rd {N : List Str} (T : OexC K C) (hno : PySem.W.findIn K (.ref C) f = some none) (h : spI1 C f vs H Q E) : tOst K f (tVar 0) (tVar 1) { nx := fun _ H' => Q .non H', rt := Q } (start N vs) H := by
  obtain ⟨a, y, rfl, ea, q⟩ := h
  exact ⟨y, rfl, .ref a, rfl, a, C, rfl, T, hno, .inl ⟨ea, fun dx n ne => q dx n ne⟩⟩
theorem init2_rd {N : List Str} (T : OexC K C) (hno : PySem.W.findIn K (.ref C) f = some none) (hno2 : PySem.W.findIn K (.ref C) g = some none) (h : spI2 C f g vs H Q E) :
    tSeq (tOst K f (tVar 0) (tVar 1)) (tOst K g (tVar 0) (tVar 2)) { nx := fun _ H' => Q .non H', rt := Q } (start N vs) H := by
  obtain ⟨a, y, z, rfl, ea, q⟩ := h
  refine ⟨y, rfl, .ref a, rfl, a, C, rfl, T, hno, .inl ⟨ea, fun dx n ne => ?_⟩⟩
  exact ⟨z, rfl, .ref a, rfl, a, C, rfl, T, hno2, .inr ⟨dx, [(f, y)], upd_same, by rw [upd_ne ne, upd_same], by simp, q dx n ne⟩⟩
end

/-! ### an error is made -/
/-- C(), an error without fields -/
def tMk0 (C : Addr) : L2.St → Hp → XK → Prop := fun _ H Q => Q (.ref C) none H
section
variable {X : Cx} {es : List Expr} {e : Expr} {x : Str} {p pos pos2 : Pos} {C fI : Addr} {k : Nat} {fd : FuncData} {ps : List Str} {G : Nat → Option Addr} {W : WX}
theorem mk_endN {pins : List (Addr × Obj)} {σ : L2.St} {H1 H2 : Hp} {Q : XK} {hp hp2 h2 : Heap} {g1 g2 : Array GenState} {d1 d2 : Drawn} {t1 t2 : Nat} {os1 os2 : OsState} {a C : Addr} (T : Raises X (.ref C)) (I1 : Inv X pins σ H1 ⟨hp, g1, d1, t1, os1⟩)
    (ha : hp.objs.size ≤ a) (k : ∀ b o, hp.get? b = some o → hp2.get? b = some o) (un : Un (frs X.stack) [] (upd H1 a (exo a C none)) H2 hp2 h2) (hok : HOk X.prog X.w H2 h2) (ho : os2 = os1) (hb : AllBare g2)
    (ea : H2 = upd H1 a (exo a C none)) (q : Q (.ref C) none H1) : MkP X pins σ Q (.ref a) ⟨h2, g2, d2, t2, os2⟩ := by
  have ea1 : H2 a = some (exo a C none) := by rw [ea, upd_same]
  obtain ⟨t0, hoe⟩ := exo_at hok ea1
  have hn : H1 a = none := I1.hok.fresh ha
  obtain ⟨G, g1', g2'⟩ := restrict h2 fun b => decide (b ≠ a)
  have gk : ∀ b, b ≠ a → G.get? b = h2.get? b := fun b hb => g1' b (decide_eq_true hb)
  have ge : G.get? a = none := g2' a (by simp)
  have nha : ∀ {b : Addr} {o : Obj}, hp.get? b = some o → b ≠ a := fun {b o} z => Nat.ne_of_lt (Nat.lt_of_lt_of_le (Heap.lt_size z) ha)
  have up : ∀ {b : Addr}, b ≠ a → H1 b = none → upd H1 a (exo a C none) b = none := fun {b} hb n => by rw [upd_ne hb]; exact n
  have U : Un (frs X.stack) [] H1 H1 hp G := {
    keep := fun b o z n hf hx => by
      rw [gk b (nha z)]
      exact un.keep b o (k b o z) (up (nha z) n) hf hx
    slot := fun b o z n hf hx => by
      rw [gk b (nha z)]
      exact un.slot b o (k b o z) (up (nha z) n) hf hx
    free := fun b o z n hx => n
    there := fun b o z hx => by
      rw [gk b (nha z)]
      exact un.there b o (k b o z) hx
    tups := fun b xs z => z
    frzs := fun b o v z => z
    tbls := fun b ps z => ⟨#[], by rw [z]; simp⟩ }
  have noa : ∀ {b c : Addr}, H1 c = some (.own b) → c ≠ a := fun {b c} hc z => by rw [z, hn] at hc; cases hc
  have hok3 : HOk X.prog X.w H1 G := fun b o z => by
    have hba : b ≠ a := fun e => by rw [e, hn] at z; cases z
    have z2 : H2 b = some o := by rw [ea, upd_ne hba]; exact z
    exact (hok b o z2).stay (fun c v hc y => by
        have hca : c ≠ a := by
          rcases hc with hc | hc
          · rw [hc]; exact hba
          · intro e
            rw [e, ea1] at hc
            exact exo_own (Option.some.inj hc)
        rw [gk c hca]
        exact y)
      (fun c hc => by
        have hca : c ≠ a := fun e => by
          rw [e, ea1] at hc
          exact exo_own (Option.some.inj hc)
        rw [ea, upd_ne hca] at hc; exact hc) (fun c xs hc => by
        have hca : c ≠ a := fun e => by
          rw [e, ea1] at hc
          exact exo_tup (Option.some.inj hc)
        rw [ea, upd_ne hca] at hc; exact hc)
  have J : Inv X pins σ H1 ⟨G, g2, d2, t2, os2⟩ := I1.call' (ch := []) ho U hok3 hb (fun b z => absurd z (by simp))
  exact ⟨a, _, _, ⟨G, g2, d2, t2, os2⟩, H1, .ref C, none, rfl, J, fun b o z => (by
    by_cases hba : b = a
    · have z' : G.get? b = some o := z
      rw [hba, ge] at z'; cases z'
    · exact (gk b hba).symm.trans z), ge, hoe, ⟨rfl, rfl⟩, rfl, rfl, hn, rfl, hb, T, q⟩
theorem pmk_oex0 {CX : CXT} (T : OexC X.K C) (iC : PySem.W.findIn X.K (.ref C) "__init__" = some (some (.ref fI))) (tI : PySem.W.typeIn X.K (.ref fI) = some (.type "function"))
    (F1 : FnOk X.prog X.w X.K X.mg X.base CX k fI fd ps spI0) (hr : Room (k + 1) X.A) (hb : Binds X.K fd ps []) (hx : Passes CX X (fun _ _ _ => False)) (hg : Gl X x) (hm : X.mg x = some (.ref C))
    (hdb : (x == ("__debug__" : Str)) = false := by decide) : PMk X (.Call (.Name x p) [] [] pos) (tMk0 C) := by
  intro pins s σ H Q I h
  obtain ⟨nm, q, N, bs, bm, sn, sub, ab, col, dd, k0, k1, k2, k3, k5, hC, hbm⟩ := T.cls
  refine wpAny_Call_Name_kw (ld_glob I hg hm ?_ hdb)
  refine PySem.W.callWith_K0 I.kIn T.kC ?_
  show wpAny _ _ (call (.ref C) []) _ _ _
  obtain ⟨hp, g, dr, tk, os⟩ := s
  have hsz : hp.objs.size ≤ hp.objs.size + 1 := Nat.le_succ _
  have hn : H (hp.objs.size + 1) = none := I.hok.fresh hsz
  have kk : ∀ b o, hp.get? b = some o → ((hp.push (PySem.W.kdv_tup [])).push (PySem.HandSPX.excO C hp.objs.size)).get? b = some o := fun b o e => Heap.get?_push_of_some _ (Heap.get?_push_of_some _ e)
  have hget : ((hp.push (PySem.W.kdv_tup [])).push (PySem.HandSPX.excO C hp.objs.size)).get? (hp.objs.size + 1) = some (PySem.HandSPX.excO C hp.objs.size) := by heap_get
  have I2 : Inv X pins σ (upd H (hp.objs.size + 1) (exo (hp.objs.size + 1) C none)) ⟨(hp.push (PySem.W.kdv_tup [])).push (PySem.HandSPX.excO C hp.objs.size), g, dr, tk, os⟩ :=
    I.laid (t' := tk) (a := hp.objs.size + 1) (o := exo (hp.objs.size + 1) C none) (h' := (hp.push (PySem.W.kdv_tup [])).push (PySem.HandSPX.excO C hp.objs.size)) kk hsz (exo_ok hget)
  have hq : spI0 [V.ref (hp.objs.size + 1)] (upd H (hp.objs.size + 1) (exo (hp.objs.size + 1) C none)) (fun v H2 => v = .non ∧ H2 = upd H (hp.objs.size + 1) (exo (hp.objs.size + 1) C none)) (fun _ _ _ => False) := ⟨_, rfl, rfl, rfl⟩
  have r2 : Vals [V.ref (hp.objs.size + 1)] [Value.ref (hp.objs.size + 1)] := .cons rfl .nil
  have hl : ([Value.ref (hp.objs.size + 1)] ++ []).length = ps.length := by
    have e := r2.length
    rw [F1.len _ _ _ _ hq] at e
    exact e.symm
  refine wpAny_call (PySem.HandSPX.call_own F.excBase_ValueError (fun Y => PySem.HandSPX.refsVE_contains Y bm hbm) (I.kIn _ _ hC) (PySem.W.looks_findIn I.kIn iC) (fun self => PySem.W.bind_fn I.kIn self tI) (by rw [sizeLine_eq]; simp)
    (codeAny_mono (F1.run _ X.stack _ _ ⟨[Value.ref (hp.objs.size + 1)], []⟩ [Value.ref (hp.objs.size + 1)] _ _ (fun _ _ _ => False) (hr.make C [] []) (I2.env0.make C [] []) (hb _ [Value.ref (hp.objs.size + 1)] I2.kIn hl) r2 hq) fun r s' hq' => ?_))
  cases r with
  | error er => exact hx pins σ _ _ er s' I2 hq'
  | ok fl =>
    cases fl with
    | ret u =>
      obtain ⟨v, H2, os2, bare2, un2, hok2, rv, ev, e2⟩ := hq'
      subst ev
      obtain ⟨h2, g2, d2, t2, os'⟩ := s'
      exact ⟨rv, mk_endN (raises_own T.exC T.tyC) I hsz kk un2 hok2 os2 bare2 e2 h⟩
    | next => exact False.elim hq'
    | brk => exact False.elim hq'
    | cont => exact False.elim hq'

/-! ### raise -/
def sRaise (C : Nat) (fl : List Str) (ms : Ma) : Ms := fun env h => (ms env h).toS env fun ds h1 => bif Nat.beq ds.length fl.length then .exc C (fl.zip ds).reverse env h1 else .bad
/-- what is known of an error's class and of its __init__ -/
structure ErC (P : Program) (w : World) (K : PySem.W.Frag) (mg : Str → Option Value) (base : Heap) (C fI : Addr) (fd : FuncData) (x : Str) (k : Nat) (ps : List Str) (sp : Sp) : Prop where
  ox : OexC K C
  iC : PySem.W.findIn K (.ref C) "__init__" = some (some (.ref fI))
  tI : PySem.W.typeIn K (.ref fI) = some (.type "function")
  F : FnOk P w K mg base CX0 k fI fd ps sp
  b : Binds K fd ps []
  m : mg x = some (.ref C)
theorem ms_raise0 {Cn : Nat} (hG : G Cn = some C) (hc : X.calm = true) (T : ErC X.prog X.w X.K X.mg X.base C fI fd x k ps spI0) (tk : Takes X W) (hr : Room (k + 1) X.A) (hg : Gl X x) (hdb : (x == ("__debug__" : Str)) = false := by decide) :
    PS X (.Raise (some (.Call (.Name x p) [] [] pos)) none pos2) (RdS X.K G W (sRaise Cn [] aNil)) := by
  refine PS.imp (ps_raise hc tk (pmk_oex0 T.ox T.iC T.tI T.F hr T.b pass0 hg T.m hdb)) fun D σ H q => ?_
  obtain ⟨ρ, h, env, r, re, w⟩ := q
  exact w ρ H σ C none hG .refl r re (.inl ⟨rfl, rfl⟩)
theorem heap_back {H1 : Hp} {a dx : Addr} {u v w : HO} {fs : List (Str × V)} (ha : H1 a = none) (hd : H1 dx = none) (ne : dx ≠ a) (H2 : Hp) (e : ∀ b, b ≠ a → b ≠ dx → H2 b = H1 b) : upd (del H2 a) dx (.xd fs) = upd H1 dx (.xd fs) := by
  funext b
  by_cases h1 : b = dx
  · rw [h1, upd_same, upd_same]
  · rw [upd_ne h1, upd_ne h1]
    by_cases h2 : b = a
    · rw [h2, del_same, ha]
    · rw [del_ne h2]; exact e b h2 h1
theorem ms_raise1 {Cn : Nat} {f : Str} {ms : Ma} (hG : G Cn = some C) (hc : X.calm = true) (T : ErC X.prog X.w X.K X.mg X.base C fI fd x k ps (spI1 C f)) (tk : Takes X W) (hr : Room (k + 1) X.A) (hg : Gl X x) (ha : PA X (e :: es) (RdA X.K G W ms)) (hdb : (x == ("__debug__" : Str)) = false := by decide)
    (he : starEach (e :: es) X.env = (false, eval e X.env) :: starEach es X.env := by rfl) (hpl : (backTo pos (starEach es X.env)).any (·.1) = false := by rfl) :
    PS X (.Raise (some (.Call (.Name x p) (e :: es) [] pos)) none pos2) (RdS X.K G W (sRaise Cn [f] ms)) := by
  refine PS.imp (ps_raise hc tk (pmk_oex T.ox T.iC T.tI T.F hr T.b .nil pass0 hg T.m ha hdb he hpl)) fun D σ H q => ?_
  obtain ⟨ρ, h, env, r, re, w⟩ := q
  refine ⟨ρ, h, env, r, re, WpS.bind w re fun ds h1 ρ1 H1 vs f1 r1 q1 re1 w1 => ?_⟩
  cases el : Nat.beq ds.length [f].length with
  | false => rw [el] at w1; exact w1.elim
  | true =>
    rw [el] at w1
    have l1 := Nat.eq_of_beq_eq_true el
    match ds, q1, l1 with
    | [y], .cons (v := vy) qy .nil, _ =>
      refine ⟨by simp, fun a ha => ⟨a, vy, rfl, upd_same, fun dx hdx ne => ⟨rfl, dx, [(f, vy)], upd_same, by rw [upd_ne ne, upd_same], by rw [upd_ne ne] at hdx; exact hdx, ?_⟩⟩⟩
      have hd1 : H1 dx = none := by rw [upd_ne ne] at hdx; exact hdx
      rw [heap_back (u := .lst []) (v := .lst []) (w := .lst []) ha hd1 ne _ fun b hb hc => by rw [upd_ne hb, upd_ne hc, upd_ne hb]]
      have fu : Fut X.K ρ1 H1 ρ1 (upd H1 dx (.xd [(f, vy)])) := Fut.updN hd1
      exact w1 ρ1 _ σ C (some dx) hG fu (r1.laid hd1) (re1.fut fu) (.inr ⟨dx, _, rfl, upd_same, .cons (qy.fut fu) .nil⟩)
theorem ms_raise2 {Cn : Nat} {f g : Str} {ms : Ma} (hG : G Cn = some C) (hc : X.calm = true) (T : ErC X.prog X.w X.K X.mg X.base C fI fd x k ps (spI2 C f g)) (tk : Takes X W) (hr : Room (k + 1) X.A) (hg : Gl X x) (ha : PA X (e :: es) (RdA X.K G W ms)) (hdb : (x == ("__debug__" : Str)) = false := by decide)
    (he : starEach (e :: es) X.env = (false, eval e X.env) :: starEach es X.env := by rfl) (hpl : (backTo pos (starEach es X.env)).any (·.1) = false := by rfl) :
    PS X (.Raise (some (.Call (.Name x p) (e :: es) [] pos)) none pos2) (RdS X.K G W (sRaise Cn [f, g] ms)) := by
  refine PS.imp (ps_raise hc tk (pmk_oex T.ox T.iC T.tI T.F hr T.b .nil pass0 hg T.m ha hdb he hpl)) fun D σ H q => ?_
  obtain ⟨ρ, h, env, r, re, w⟩ := q
  refine ⟨ρ, h, env, r, re, WpS.bind w re fun ds h1 ρ1 H1 vs f1 r1 q1 re1 w1 => ?_⟩
  cases el : Nat.beq ds.length [f, g].length with
  | false => rw [el] at w1; exact w1.elim
  | true =>
    rw [el] at w1
    have l1 := Nat.eq_of_beq_eq_true el
    match ds, q1, l1 with
    | [y, z], .cons (v := vy) qy (.cons (v := vz) qz .nil), _ =>
      refine ⟨by simp, fun a ha => ⟨a, vy, vz, rfl, upd_same, fun dx hdx ne => ⟨rfl, dx, [(g, vz), (f, vy)], by rw [upd_ne (Ne.symm ne), upd_same], upd_same, by rw [upd_ne ne] at hdx; exact hdx, ?_⟩⟩⟩
      have hd1 : H1 dx = none := by rw [upd_ne ne] at hdx; exact hdx
      rw [heap_back (u := .lst []) (v := .lst []) (w := .lst []) ha hd1 ne _ fun b hb hc => by rw [upd_ne hc, upd_ne hb, upd_ne hc, upd_ne hb]]
      have fu : Fut X.K ρ1 H1 ρ1 (upd H1 dx (.xd [(g, vz), (f, vy)])) := Fut.updN hd1
      exact w1 ρ1 _ σ C (some dx) hG fu (r1.laid hd1) (re1.fut fu) (.inr ⟨dx, _, rfl, upd_same, .cons (qz.fut fu) (.cons (qy.fut fu) .nil)⟩)
end
end MM

set_option Elab.async false
set_option linter.all false
set_option maxRecDepth 100000
set_option maxHeartbeats 4000000
set_option autoImplicit false
/-! try with several clauses, each with or without a name -/
namespace MM
open PySem PySem.Spec PyProof.Rows L2

abbrev TC := Value × Option Nat × (Addr → Value → Option Addr → TS)
/-- what the clauses wish of an exception of the body, one after the other -/
def wTry (K : PySem.W.Frag) (Wout : WX) (D : Ends) : List TC → WX
  | [] => Wout
  | (c, none, ts) :: r => fun cls d σ H => ∃ b, PySem.W.exmOne K cls c = some b ∧ (b = true → ∀ a, H a = none → ts a cls d D σ H) ∧ (b = false → wTry K Wout D r cls d σ H)
  | (c, some i, ts) :: r => fun cls d σ H => ∃ b, PySem.W.exmOne K cls c = some b ∧
      (b = true → ∀ a, H a = none → ts a cls d { nx := fun σ' H' => D.nx (σ'.set i none) H', rt := D.rt, bk := fun σ' H' => D.bk (σ'.set i none) H', ct := fun σ' H' => D.ct (σ'.set i none) H' } (σ.set i (some (.ref a))) H) ∧ (b = false → wTry K Wout D r cls d σ H)
inductive HdsT (X : Cx) : List ExceptHandler → List TC → Prop
  | nil : HdsT X [] []
  | cons0 {x : Str} {c : Value} {ts : Addr → Value → Option Addr → TS} {b₀ : Stmt} {suite : List Stmt} {np pos' : Pos} {hds : List ExceptHandler} {l : List TC} (hc : Names X x c)
      (hsu : ∀ (a : Addr) (oe : Obj) (cls : Value) (d : Option Addr) (pn : List (Addr × Obj)), Zc cls d oe → (∃ vs, oe.data = .fields vs) → PSs (X.suite a ((a, oe) :: pn)) (b₀ :: suite) (ts a cls d)) (r : HdsT X hds l) :
      HdsT X (.ExceptHandler (some (.Name x np)) none (b₀ :: suite) pos' :: hds) ((c, none, ts) :: l)
  | cons1 {x n : Str} {i : Nat} {c : Value} {ts : Addr → Value → Option Addr → TS} {b₀ : Stmt} {suite : List Stmt} {np pos' : Pos} {hds : List ExceptHandler} {l : List TC} (hi : X.N[i]? = some n) (hln : X.env.kindOf n = some .local) (hc : Names X x c)
      (hsu : ∀ (a : Addr) (oe : Obj) (cls : Value) (d : Option Addr) (pn : List (Addr × Obj)), Zc cls d oe → (∃ vs, oe.data = .fields vs) → PSs (X.suite a ((a, oe) :: pn)) (b₀ :: suite) (ts a cls d)) (r : HdsT X hds l) :
      HdsT X (.ExceptHandler (some (.Name x np)) (some n) (b₀ :: suite) pos' :: hds) ((c, some i, ts) :: l)
section
variable {X : Cx} {body : List Stmt} {h₀ : ExceptHandler} {hds : List ExceptHandler} {l : List TC} {pos : Pos} {tb : WX → TS} {Wout : WX}
theorem ps_tryM (hs : X.stack = X.env :: X.outer) (hf : X.env.frame = some X.env.locals) (hN : X.N.Nodup) (tk : Takes X Wout)
    (hb : ∀ (W : WX) (pn : List (Addr × Obj)) (xe : Value → Shared → Prop), Takes (X.tr pn xe) W → PassesOwn (model X.prog X.w) X.A X.env xe → PSs (X.tr pn xe) body (tb W))
    (hh : HdsT X (h₀ :: hds) l) : PS X (.Try body (h₀ :: hds) [] [] pos) (fun D σ H => tb (wTry X.K Wout D l) D σ H) := by
  refine ⟨fun pins s σ H D I h => ?_⟩
  have ok := I.ok
  have hfr : X.A.frames = some (X.env :: X.outer) := by rw [ok.frames, hs]
  refine wpAny_Try_except ?_
  refine wpAny_mono ((hb (wTry X.K Wout D l) (X.pn ++ pins) (fun e s₁ => wpAny (model X.prog X.w) X.A (noteFrame e X.env) (fun _ s₂ => wpAny (model X.prog X.w) X.A (setFlight e none) (fun _ s₃ =>
    wpAny (model X.prog X.w) X.A (handleBy e X.env (h₀ :: hds)) (SP X pins D) X.xe s₃) X.xe s₂) X.xe s₁) (fun u s' xx => ?_) PassesOwn.looking).run [] s σ H D (I.toTry _) h) (fun f s1 hsp => ?_) (fun e s1 he => he)
  · -- the catch
    obtain ⟨a, B, sI, pins', σ', H', cls, d, rfl, J', nb, up, sky, na, os, ag, w⟩ := xx
    have J : Inv X pins σ' H' sI := J'.ofTry ok
    have sky' : Sky B (X.env :: X.outer) a (Zc cls d) X.env.locals s'.heap := by rw [← hs]; exact sky
    show wpAny (model X.prog X.w) X.A (noteFrame (.ref a) X.env) _ _ _
    refine Sky.land Zc.steady hfr hf sky' fun h3 fl3 up3 => ?_
    have J3 : Inv X pins σ' H' { s' with heap := h3 } := J.landed nb fl3.1 (up.trans up3) os ag
    obtain ⟨oe3, vs3, he3, hz3, hd3⟩ := fl3.there
    have notFr : ∀ {h : Heap} {o : Obj} {vs : Array Value}, h.FunFrames B (X.env :: X.outer) → h.get? a = some o → o.data = .fields vs → a ∉ frs (X.env :: X.outer) := fun {h o vs} ff e dd hm => by
      obtain ⟨_, o', e', hnf⟩ := ff.mem hm
      rw [e] at e'; cases e'
      exact hnf _ dd
    have nfr := notFr fl3.2.2.1 he3 hd3
    have nL : a ≠ X.env.locals := fun z => nfr (List.mem_filterMap.mpr ⟨X.env, List.mem_cons_self, by rw [hf, z]⟩)
    have nF : a ∉ X.fs := fun hm => by
      obtain ⟨e, he, q⟩ := List.mem_filterMap.mp hm
      exact nfr (List.mem_filterMap.mpr ⟨e, List.mem_cons_of_mem _ he, q⟩)
    have S3 := J3.suite he3 hd3 na nL nF
    have LT : PySem.W.Looks (model X.prog X.w) h3 (typeOf (.ref a)) cls := fun A Q E s k q => wpAny_typeOf_ref (k _ _ he3) (by rw [hz3.1]; exact q)
    have test : ∀ {x : Str} {c : Value} {np : Pos} {Q : Value → Shared → Prop} {E : Value → Shared → Prop}, Names X x c → Q c { s' with heap := h3 } → wpAny (model X.prog X.w) (X.A.mark (some (.ref a))) (eval (.Name x np) X.env) Q E { s' with heap := h3 } := fun {x c np Q E} hc q => by
      obtain ⟨hg, hdbg, hm | ⟨hm, hv, hnn⟩⟩ := hc
      · exact ld_glob (X := X.suite a ((a, oe3) :: (X.pn ++ pins))) S3 hg hm q hdbg
      · exact ld_blt (X := X.suite a ((a, oe3) :: (X.pn ++ pins))) S3 hg hm hv q hnn hdbg
    have go : ∀ {hds' : List ExceptHandler} {l' : List TC}, HdsT X hds' l' → wTry X.K Wout D l' cls d σ' H' →
        wpAny (model X.prog X.w) X.A (handleBy (.ref a) X.env hds') (SP X pins D) X.xe { s' with heap := h3 } := by
      intro hds' l' hk
      induction hk with
      | nil =>
        intro w
        refine wpAny_handleBy_nil ?_
        obtain ⟨k1, k2, k3, oe, vs, T, oT, ts', he, hz, hd, h1, hr⟩ := id fl3
        unfold PySem.passOn
        refine wpAny_bind (wpAny_field he hd h1 ?_)
        rw [if_neg (show ¬ ((Value.ref T == Value.none) = true) from by simp)]
        have fin : wpAny (model X.prog X.w) X.A (setFlight (.ref a) X.env.frame) (fun _ s4 => wpAny (model X.prog X.w) X.A (throw (.ref a) : Sem Flow) (SP X pins D) X.xe s4) X.xe { s' with heap := h3 } := by
          rw [hf]
          refine HandSPX.setFlight_upZ fl3 fun h4 hh4 up4 => wpAny_throw (tk _ _ ?_)
          exact ⟨a, B, sI, pins, σ', H', cls, d, rfl, J, nb, (up.trans up3).trans up4, .inr (.inr (by rw [hs]; exact hh4)), na, os, ag, w⟩
        first
          | exact wpAny_bind (wpAny_pure (wpAny_bind fin))
          | exact wpAny_bind fin
      | @cons0 x c ts b₀ suite np pos' hds2 l2 hc hsu r ih =>
        intro w
        obtain ⟨b, hb1, hyes, hno⟩ := w
        have LM := PySem.W.exm_one (M := model X.prog X.w) (J3.kIn) LT hb1
        refine wpAny_handleBy_cons (codeAny_handlers_test ?_) (by intro q; cases q)
        refine test hc (LM.here ?_)
        cases b with
        | true =>
          refine codeAny_handlers_suite ?_
          refine HandSPX.lands_againZ fl3 fun h4 fl4 up4 => ?_
          have J4 : Inv X pins σ' H' { s' with heap := h4 } := J.landed nb fl4.1 ((up.trans up3).trans up4) os ag
          obtain ⟨oe4, vs4, he4, hz4, hd4⟩ := fl4.there
          have S4 := J4.suite he4 hd4 na nL nF
          refine wpAny_mono ((hsu a oe4 cls d (X.pn ++ pins) hz4 ⟨_, hd4⟩).run [] _ _ H' _ S4 (hyes rfl a na)) (fun f s6 hsp => ?_) (fun _ _ z => False.elim z)
          cases f with
          | next =>
            obtain ⟨σ6, H6, S6, q6⟩ := hsp
            exact ⟨_, _, S6.unsuite ok, q6⟩
          | brk =>
            obtain ⟨σ6, H6, S6, q6⟩ := hsp
            exact ⟨_, _, S6.unsuite ok, q6⟩
          | cont =>
            obtain ⟨σ6, H6, S6, q6⟩ := hsp
            exact ⟨_, _, S6.unsuite ok, q6⟩
          | ret u =>
            obtain ⟨v6, σ6, H6, S6, r6, q6⟩ := hsp
            exact ⟨_, _, _, S6.unsuite ok, r6, q6⟩
        | false =>
          show wpAny _ X.A (handleBy (.ref a) X.env hds2) _ _ _
          exact ih (hno rfl)
      | @cons1 x n i c ts b₀ suite np pos' hds2 l2 hi hln hc hsu r ih =>
        intro w
        obtain ⟨b, hb1, hyes, hno⟩ := w
        have hloc : Loc X.env.scope n := .inl hln
        have LM := PySem.W.exm_one (M := model X.prog X.w) (J3.kIn) LT hb1
        refine wpAny_handleBy_cons (codeAny_handlers_test ?_) (by intro q; cases q)
        refine test hc (LM.here ?_)
        cases b with
        | true =>
          refine codeAny_handlers_suite_as ?_
          refine HandSPX.lands_againZ fl3 fun h4 fl4 up4 => ?_
          have J4 : Inv X pins σ' H' { s' with heap := h4 } := J.landed nb fl4.1 ((up.trans up3).trans up4) os ag
          obtain ⟨oe4, vs4, he4, hz4, hd4⟩ := fl4.there
          have S4 := J4.suite he4 hd4 na nL nF
          refine store_ok (X := X.suite a ((a, oe4) :: (X.pn ++ pins))) (v := .ref a) S4 hN hi hloc rfl (fun s5 S5 => ?_) (.inr hln)
          refine wpAny_mono ((hsu a oe4 cls d (X.pn ++ pins) hz4 ⟨_, hd4⟩).run [] s5 _ H' _ S5 (hyes rfl a na)) (fun f s6 hsp => ?_) (fun _ _ z => False.elim z)
          have end_ : ∀ {σ6 : L2.St} {H6 : Hp} {Q : Shared → Prop}, Inv (X.suite a ((a, oe4) :: (X.pn ++ pins))) [] σ6 H6 s6 → (∀ s7, Inv X pins (σ6.set i none) H6 s7 → Q s7) →
              wpAny (model X.prog X.w) X.A (do bindName X.env n .none; unbindBehindTheSuite X.env n pos') (fun _ s7 => Q s7) X.xe s6 := fun {σ6 H6 Q} S6 hq => gone_ok (S6.unsuite ok) hN hi hln hq
          cases f with
          | next =>
            obtain ⟨σ6, H6, S6, q6⟩ := hsp
            exact end_ S6 fun s7 J7 => ⟨_, _, J7, q6⟩
          | brk =>
            obtain ⟨σ6, H6, S6, q6⟩ := hsp
            exact end_ S6 fun s7 J7 => ⟨_, _, J7, q6⟩
          | cont =>
            obtain ⟨σ6, H6, S6, q6⟩ := hsp
            exact end_ S6 fun s7 J7 => ⟨_, _, J7, q6⟩
          | ret u =>
            obtain ⟨v6, σ6, H6, S6, r6, q6⟩ := hsp
            exact end_ S6 fun s7 J7 => ⟨_, _, _, J7, r6, q6⟩
        | false =>
          show wpAny _ X.A (handleBy (.ref a) X.env hds2) _ _ _
          exact ih (hno rfl)
    exact go hh w
  · cases f with
    | next =>
      obtain ⟨σ', H', J', q⟩ := hsp
      exact wpAny_execs_nil ⟨σ', H', J'.ofTry ok, q⟩
    | brk =>
      obtain ⟨σ', H', J', q⟩ := hsp
      exact ⟨σ', H', J'.ofTry ok, q⟩
    | cont =>
      obtain ⟨σ', H', J', q⟩ := hsp
      exact ⟨σ', H', J'.ofTry ok, q⟩
    | ret u =>
      obtain ⟨v, σ', H', J', r, q⟩ := hsp
      exact ⟨v, σ', H', J'.ofTry ok, r, q⟩
end

theorem exm_pair {K : PySem.W.Frag} {C S : Addr} {b : Bool} (h1 : PySem.W.subIn K (.ref S) (.type "BaseException") = some true) (h2 : PySem.W.isClsIn K S = true) (h3 : PySem.W.typeIn K (.ref S) = some (.type "type")) (h4 : PySem.W.subIn K (.ref C) (.ref S) = some b) :
    PySem.W.exmOne K (.ref C) (.ref S) = some b := by
  have e1 : (PySem.W.subIn K (.ref S) (.type "BaseException") == some true) = true := by rw [h1] <;> rfl
  have e2 : ((PySem.W.clsIn K S).isSome && PySem.W.typeIn K (.ref S) == some (.type "type")) = true := by
    have h2' : (PySem.W.clsIn K S).isSome = true := h2
    rw [h2', h3] <;> rfl
  show (if (PySem.W.subIn K (.ref S) (.type "BaseException") == some true) = true then (if ((PySem.W.clsIn K S).isSome && PySem.W.typeIn K (.ref S) == some (.type "type")) = true then PySem.W.subIn K (.ref C) (.ref S) else none) else none) = some b
  rw [if_pos e1, if_pos e2]
  exact h4

/-! ### the mirror -/
abbrev Fs := List (Str × D)
/-- a clause: its error's number, the numbers of the other errors that may come, the slot of its name, its suite by the error's fields -/
structure Cl where
  C : Nat
  ot : List Nat
  i : Option Nat
  s : Fs → Ms
def unE (i : Option Nat) (env : ME) : ME := match i with
  | none => env
  | some i => env.set i none
def unSR (i : Option Nat) : SR → SR
  | .nx e h => .nx (unE i e) h
  | .bk e h => .bk (unE i e) h
  | .ct e h => .ct (unE i e) h
  | .rt v h => .rt v h
  | _ => .bad
def catchM : List Cl → Nat → Fs → ME → MH → SR
  | [], C, fs, env, h => .exc C fs env h
  | c :: r, C, fs, env, h => bif Nat.beq C c.C then unSR c.i (c.s fs (unE c.i env) h) else bif c.ot.contains C then catchM r C fs env h else .bad
def sTry (body : Ms) (cl : List Cl) : Ms := fun env h => match body env h with
  | .exc C fs e h1 => catchM cl C fs e h1
  | r => r
section
variable {K : PySem.W.Frag} {G : Nat → Option Addr}
theorem REnv.unsetA {ρ : List Addr} {H : Hp} {env : ME} {σ : L2.St} {i : Nat} {v : Option V} (r : REnv K G ρ H env σ) : REnv K G ρ H (env.set i none) (σ.set i v) := by
  refine ⟨by simp [r.len], fun j x e => ?_⟩
  by_cases hj : i = j
  · subst hj
    have hl : i < env.length := by
      have := (List.getElem?_eq_some_iff.mp e).1
      simpa using this
    rw [List.getElem?_set_self hl] at e
    cases e
  · rw [List.getElem?_set_ne hj] at e
    obtain ⟨u, q, w⟩ := r.at_ j x e
    exact ⟨u, by rw [List.getElem?_set_ne hj]; exact q, w⟩
theorem RX.fut {ρ ρ' : List Addr} {H H' : Hp} {fs : Fs} {d : Option Addr} (r : RX K G ρ H fs d) (f : Fut K ρ H ρ' H') : RX K G ρ' H' fs d := by
  rcases r with r | ⟨dd, vs, e1, e2, e3⟩
  · exact .inl r
  · exact .inr ⟨dd, vs, e1, f.xd _ _ e2, e3.fut f⟩
/-- the state of a suite: fs the error's fields, i where the error stands -/
structure SX (K : PySem.W.Frag) (G : Nat → Option Addr) (a : Addr) (i : Option Nat) (d : Option Addr) (P : Prop) (fs : Fs) (ρ : List Addr) (h : MH) (env : ME) (σ : L2.St) (H : Hp) : Prop where
  r : Rel K G ρ h H
  re : REnv K G ρ H env σ
  x : RX K G ρ H fs d
  p : P
  at_ : ∀ j, i = some j → j < σ.length → σ[j]? = some (some (.ref a))
theorem SX.fut {ρ ρ' : List Addr} {H H' : Hp} {a : Addr} {i : Option Nat} {d : Option Addr} {P : Prop} {fs : Fs} {h h' : MH} {env : ME} {σ : L2.St} (s : SX K G a i d P fs ρ h env σ H) (f : Fut K ρ H ρ' H') (r : Rel K G ρ' h' H') : SX K G a i d P fs ρ' h' env σ H' := ⟨r, s.re.fut f, s.x.fut f, s.p, s.at_⟩
/-- a suite's statement: its mirror by the error's fields -/
def RdZ (K : PySem.W.Frag) (G : Nat → Option Addr) (a : Addr) (i : Option Nat) (d : Option Addr) (P : Prop) (m : Fs → Ms) : TS := fun D σ H => ∃ fs ρ h env, SX K G a i d P fs ρ h env σ H ∧ WpS K G W0 ρ H (m fs env h) D
abbrev RdSx (K : PySem.W.Frag) (G : Nat → Option Addr) (c : Addr) (i : Option Nat) (m : Fs → Ms) : Addr → Value → Option Addr → TS := fun a cls d => RdZ K G a i d (cls = .ref c) m
inductive OtOk (K : PySem.W.Frag) (G : Nat → Option Addr) (C : Nat) (c : Addr) : List Nat → Prop
  | nil : OtOk K G C c []
  | cons {D : Nat} {d : Addr} {r : List Nat} (ne : Nat.beq D C = false) (g : G D = some d) (e : PySem.W.exmOne K (.ref d) (.ref c) = some false) (h : OtOk K G C c r) : OtOk K G C c (D :: r)
theorem OtOk.at_ {C : Nat} {c : Addr} : ∀ {r : List Nat}, OtOk K G C c r → ∀ D d, G D = some d → r.contains D = true → Nat.beq D C = false ∧ PySem.W.exmOne K (.ref d) (.ref c) = some false
  | _, .nil, D, d, g, h => by simp at h
  | _, .cons (D := D') ne g' e r, D, d, g, h => by
    by_cases q : D = D'
    · subst q
      rw [g'] at g; cases g
      exact ⟨ne, e⟩
    · exact r.at_ D d g (by simpa [q] using h)
theorem hi_of {C : Nat} {c : Addr} {ot : List Nat} (g : G C = some c) (e : PySem.W.exmOne K (.ref c) (.ref c) = some true) (h : OtOk K G C c ot) : ∀ D d, G D = some d → (D = C ∨ ot.contains D = true) → PySem.W.exmOne K (.ref d) (.ref c) = some (Nat.beq D C) := fun D d hD q => by
  rcases q with rfl | q
  · rw [g] at hD; cases hD
    rw [Nat.beq_refl]; exact e
  · obtain ⟨h1, h2⟩ := h.at_ D d hD q
    rw [h1]; exact h2
/-- the clauses' classes by their numbers -/
inductive ClsT (K : PySem.W.Frag) (G : Nat → Option Addr) : List Cl → List TC → Prop
  | nil : ClsT K G [] []
  | cons {cl : List Cl} {l : List TC} {c : Addr} {C : Nat} {ot : List Nat} {i : Option Nat} {s : Fs → Ms} (g : G C = some c) (hi : ∀ D d, G D = some d → (D = C ∨ ot.contains D = true) → PySem.W.exmOne K (.ref d) (.ref c) = some (Nat.beq D C)) (r : ClsT K G cl l) :
      ClsT K G (⟨C, ot, i, s⟩ :: cl) ((.ref c, i, RdSx K G c i s) :: l)
theorem WpS.un {ρ : List Addr} {H : Hp} {r : SR} {D : Ends} {i : Nat} (w : WpS K G (fun _ _ _ _ => False) ρ H (unSR (some i) r) D) : WpS K G W0 ρ H r { nx := fun σ' H' => D.nx (σ'.set i none) H', rt := D.rt, bk := fun σ' H' => D.bk (σ'.set i none) H', ct := fun σ' H' => D.ct (σ'.set i none) H' } := by
  cases r with
  | nx e h => exact fun ρ' H' σ' f r re => w ρ' H' _ f r re.unset2
  | bk e h => exact fun ρ' H' σ' f r re => w ρ' H' _ f r re.unset2
  | ct e h => exact fun ρ' H' σ' f r re => w ρ' H' _ f r re.unset2
  | rt v h => exact w
  | exc C fs e h => exact w.elim
  | bad => exact w.elim
theorem WpS.un0 {ρ : List Addr} {H : Hp} {r : SR} {D : Ends} (w : WpS K G (fun _ _ _ _ => False) ρ H (unSR none r) D) : WpS K G W0 ρ H r D := by
  cases r with
  | nx e h => exact w
  | bk e h => exact w
  | ct e h => exact w
  | rt v h => exact w
  | exc C fs e h => exact w.elim
  | bad => exact w.elim
/-- what ends without an exception may be read under any wish -/
theorem WpS.anyW {ρ : List Addr} {H : Hp} {r : SR} {D : Ends} {W W' : WX} {i : Option Nat} (w : WpS K G W ρ H (unSR i r) D) : WpS K G W' ρ H (unSR i r) D := by
  cases r with
  | nx e h => exact w
  | bk e h => exact w
  | ct e h => exact w
  | rt v h => exact w
  | exc C fs e h => exact w.elim
  | bad => exact w.elim
theorem catch_ok {W : WX} {D : Ends} : ∀ {cl : List Cl} {l : List TC}, ClsT K G cl l → ∀ {C : Nat} {fs : Fs} {env : ME} {h : MH} {ρ : List Addr} {H : Hp} {σ : L2.St} {c : Addr} {d : Option Addr},
    WpS K G W ρ H (catchM cl C fs env h) D → G C = some c → Rel K G ρ h H → REnv K G ρ H env σ → RX K G ρ H fs d → wTry K W D l (.ref c) d σ H
  | _, _, .nil, C, fs, env, h, ρ, H, σ, c, d, w, g, r, re, hx => w ρ H σ c d g .refl r re hx
  | _, _, .cons (cl := cl) (l := l) (c := c') (C := C') (ot := ot) (i := i) (s := s) g' hi rest, C, fs, env, h, ρ, H, σ, c, d, w, g, r, re, hx => by
    unfold catchM at w
    cases eb : Nat.beq C C' with
    | true =>
      simp only [eb, cond_true] at w
      obtain rfl := Nat.eq_of_beq_eq_true eb
      rw [g'] at g; cases g
      have e1 := hi C c' g' (.inl rfl)
      rw [Nat.beq_refl] at e1
      cases i with
      | none => exact ⟨true, e1, fun _ a ha => ⟨fs, ρ, h, env, ⟨r, re, hx, rfl, (fun j q => nomatch q)⟩, (WpS.anyW w).un0⟩, (fun q => nomatch q)⟩
      | some i =>
        refine ⟨true, e1, fun _ a ha => ?_, (fun q => nomatch q)⟩
        exact ⟨fs, ρ, h, env.set i none, ⟨r, re.unsetA, hx, rfl, (fun j q hl => by cases q; rw [List.length_set] at hl; rw [List.getElem?_set_self hl])⟩, (WpS.anyW w).un⟩
    | false =>
      simp only [eb, cond_false] at w
      cases eo : ot.contains C with
      | false => simp only [eo, cond_false] at w; exact w.elim
      | true =>
        simp only [eo, cond_true] at w
        have e1 := hi C c g (.inr eo)
        rw [eb] at e1
        have ih := catch_ok rest w g r re hx
        cases i with
        | none => exact ⟨false, e1, (fun q => nomatch q), fun _ => ih⟩
        | some i => exact ⟨false, e1, (fun q => nomatch q), fun _ => ih⟩
end
section
variable {X : Cx} {G : Nat → Option Addr} {W : WX} {body : List Stmt} {h₀ : ExceptHandler} {hds : List ExceptHandler} {l : List TC} {cl : List Cl} {pos : Pos} {mb : Ms}
theorem ms_try (hs : X.stack = X.env :: X.outer) (hf : X.env.frame = some X.env.locals) (hN : X.N.Nodup) (tk : Takes X W)
    (hb : ∀ (W' : WX) (pn : List (Addr × Obj)) (xe : Value → Shared → Prop), Takes (X.tr pn xe) W' → PassesOwn (model X.prog X.w) X.A X.env xe → PSs (X.tr pn xe) body (RdS X.K G W' mb))
    (hh : HdsT X (h₀ :: hds) l) (hc : ClsT X.K G cl l) : PS X (.Try body (h₀ :: hds) [] [] pos) (RdS X.K G W (sTry mb cl)) := by
  refine PS.imp (ps_tryM (tb := fun W' => RdS X.K G W' mb) hs hf hN tk (fun W' pn xe t p => hb W' pn xe t p) hh) fun D σ H q => ?_
  obtain ⟨ρ, h, env, r, re, w⟩ := q
  refine ⟨ρ, h, env, r, re, ?_⟩
  unfold sTry at w
  cases eb : mb env h with
  | nx e h1 => rw [eb] at w; exact w
  | rt v h1 => rw [eb] at w; exact w
  | bk e h1 => rw [eb] at w; exact w
  | ct e h1 => rw [eb] at w; exact w
  | bad => rw [eb] at w; exact w.elim
  | exc C fs e h1 =>
    rw [eb] at w
    exact fun ρ' H' σ' c d g f r' re' hx => catch_ok hc (WpS.fut f w) g r' re' hx
end

/-! ### expressions in a suite -/
def RdEx (K : PySem.W.Frag) (G : Nat → Option Addr) (a : Addr) (i : Option Nat) (d : Option Addr) (P : Prop) (m : Fs → Mx) : TE := fun σ H Q => ∃ fs ρ h env, SX K G a i d P fs ρ h env σ H ∧ Wp K G (RD K G) ρ H (m fs env h) Q (fun _ _ _ => False)
def RdAx (K : PySem.W.Frag) (G : Nat → Option Addr) (a : Addr) (i : Option Nat) (d : Option Addr) (P : Prop) (m : Fs → Ma) : TA := fun σ H Q => ∃ fs ρ h env, SX K G a i d P fs ρ h env σ H ∧ Wp K G (RDs K G) ρ H (m fs env h) Q (fun _ _ _ => False)
def eXf (i : Nat) (f : Str) (fs : Fs) : Mx := fun env h => bif Nat.blt i env.length then (match fs.lookup f with
  | some d => .ok d h
  | none => .bad) else .bad
section
variable {X : Cx} {G : Nat → Option Addr} {a : Addr} {i : Option Nat} {d : Option Addr} {P : Prop} {e b : Expr} {es : List Expr} {pos : Pos}
theorem xe_of {m : Mx} (p : PE X e (RdE X.K G W0 m)) : PE X e (RdEx X.K G a i d P fun _ => m) := PE.imp p fun σ H Q q => by
  obtain ⟨fs, ρ, h, env, s, w⟩ := q
  exact ⟨ρ, h, env, s.r, s.re, w⟩
theorem xa_nil : PA X [] (RdAx X.K G a i d P fun _ => aNil) := PA.imp pa_nil fun σ H Q ⟨fs, ρ, h, env, s, w⟩ => w.ret s.r .nil
theorem xa_cons {m : Fs → Mx} {ms : Fs → Ma} (ha : PE X e (RdEx X.K G a i d P m)) (hr : PA X es (RdAx X.K G a i d P ms)) (hs : starEach (e :: es) X.env = (false, eval e X.env) :: starEach es X.env := by rfl) : PA X (e :: es) (RdAx X.K G a i d P fun fs => aCons (m fs) (ms fs)) := by
  refine PA.imp (pa_cons ha hr hs) fun σ H Q q => ?_
  obtain ⟨fs, ρ, h, env, s, w⟩ := q
  refine ⟨fs, ρ, h, env, s, Wp.bind (f := fun x h1 => (ms fs env h1).bind fun xs h2 => .ok (x :: xs) h2) w fun y h1 ρ1 H1 v1 f1 r1 q1 w1 => ?_⟩
  refine ⟨fs, ρ1, h1, env, s.fut f1 r1, Wp.bind w1 fun xs h2 ρ2 H2 vs f2 r2 q2 w2 => ?_⟩
  exact w2.ret r2 (.cons (q1.fut f2) q2)
theorem xe_cmp {op : CmpOp} {f : D → D → MH → Option (D × MH)} {ma mb : Fs → Mx} (ho : OpOK X G (compareOp op) f) (ha : PE X e (RdEx X.K G a i d P ma)) (hb : PE X b (RdEx X.K G a i d P mb)) (hm : behindInMarks op b = false := by first | exact nomark _ (by decide) (by decide) | rfl) :
    PE X (.Compare e [op] [b] pos) (RdEx X.K G a i d P fun fs => eOp f (ma fs) (mb fs)) := PE.imp (pe_cmpR ho ha hb hm) fun σ H Q q => by
  obtain ⟨fs, ρ, h, env, s, w⟩ := q
  refine ⟨fs, ρ, h, env, s, Wp.bind w fun x h1 ρ1 H1 vx f1 r1 q1 w1 => ?_⟩
  refine ⟨fs, ρ1, h1, env, s.fut f1 r1, Wp.bind w1 fun y h2 ρ2 H2 vy f2 r2 q2 w2 => ?_⟩
  obtain ⟨v, h', e, k⟩ := w2.opt
  exact ⟨ρ2, h2, x, y, v, h', r2, q1.fut f2, q2, e, k⟩
theorem xe_tup {x1} {m : Fs → Ma} (ha : PA X es (RdAx X.K G a i d P m)) : PE X (.Tuple es x1 pos) (RdEx X.K G a i d P fun fs => eTup (m fs)) := by
  refine PE.imp (pe_tup ha) fun σ H Q q => ?_
  obtain ⟨fs, ρ, h, env, s, w⟩ := q
  refine ⟨fs, ρ, h, env, s, Wp.bind w fun xs h1 ρ1 H1 vs f1 r1 q1 w1 => ?_⟩
  unfold mkTup at w1
  split at w1
  · refine ⟨by rw [← q1.length]; assumption, fun p n => ?_⟩
    obtain ⟨f2, r2, q2⟩ := new_tup r1 n q1
    exact w1 _ _ _ f2 r2 q2
  · exact w1.elim
theorem xe_lst {m : Fs → Ma} (ha : PA X es (RdAx X.K G a i d P m)) : PE X (.List es pos) (RdEx X.K G a i d P fun fs => eLst (m fs)) := by
  refine PE.imp (pe_lst ha) fun σ H Q q => ?_
  obtain ⟨fs, ρ, h, env, s, w⟩ := q
  refine ⟨fs, ρ, h, env, s, Wp.bind w fun xs h1 ρ1 H1 vs f1 r1 q1 w1 => ?_⟩
  unfold mkLst at w1
  split at w1
  · refine ⟨by rw [← q1.length]; assumption, fun p n => ?_⟩
    obtain ⟨f2, r2, q2⟩ := new_lst r1 n q1
    exact w1 _ _ _ f2 r2 q2
  · exact w1.elim
theorem xe_callB {x : Str} {id : String} {p : Pos} {f : List D → MH → Option (D × MH)} {ms : Fs → Ma} (hc : CallOK X G (.builtin id) f) (hg : Gl X x) (hm : X.mg x = none) (hv : bootBuiltins x = some (.builtin id)) (ha : PA X (e :: es) (RdAx X.K G a i d P ms)) (hn : x ≠ "__name__" := by decide) (hdb : (x == ("__debug__" : Str)) = false := by decide)
    (he : starEach (e :: es) X.env = (false, eval e X.env) :: starEach es X.env := by rfl) (hpl : (backTo pos (starEach es X.env)).any (·.1) = false := by rfl) : PE X (.Call (.Name x p) (e :: es) [] pos) (RdEx X.K G a i d P fun fs => eCB f (ms fs)) := by
  refine PE.imp (pe_callB hc hg hm hv ha hn hdb he hpl) fun σ H Q q => ?_
  obtain ⟨fs, ρ, h, env, s, w⟩ := q
  refine ⟨fs, ρ, h, env, s, Wp.bind w fun xs h1 ρ1 H1 vs f1 r1 q1 w1 => ?_⟩
  obtain ⟨v, h', e, k⟩ := w1.opt
  exact ⟨ρ1, h1, xs, v, h', r1, q1, e, k⟩
theorem xs_one {st : Stmt} {t : TS} (p : PS X st t) : PSs X [st] t := pss_one p
theorem xs_set {m : Fs → Mx} {j : Nat} {x : Str} {pos' : Pos} (hN : X.N.Nodup) (hj : X.N[j]? = some x) (hx : Loc X.env.scope x) (he : PE X e (RdEx X.K G a i d P m)) (hs : swapsWith e (some (.Name x pos')) pos.line X.env = pure false := by rfl)
    (hf : X.fn x = true ∨ X.env.scope.names.lookup x = some .local := by first | exact .inl rfl | exact .inr rfl | assumption) : PS X (.Assign [.Name x pos'] e pos) (RdZ X.K G a i d P fun fs => sSet j (m fs)) := by
  refine PS.imp (ps_set hN hj hx he hs hf) fun D σ H q => ?_
  obtain ⟨fs, ρ, h, env, s, w⟩ := q
  refine ⟨fs, ρ, h, env, s, Wp.fut .refl (?_ : Wp X.K G (RD X.K G) ρ H (m fs env h) _ _)⟩
  exact (WpS.bind (Q1 := fun v H' => D.nx (σ.set j (some v)) H') w s.re fun x h1 ρ1 H1 vx f1 r1 q1 re1 w1 => w1.go r1 (re1.set q1))
theorem xs_ret {m : Fs → Mx} (he : PE X e (RdEx X.K G a i d P m)) : PS X (.Return (some e) pos) (RdZ X.K G a i d P fun fs => sRet (m fs)) := by
  refine PS.imp (ps_ret he) fun D σ H q => ?_
  obtain ⟨fs, ρ, h, env, s, w⟩ := q
  exact ⟨fs, ρ, h, env, s, WpS.bind w s.re fun x h1 ρ1 H1 vx f1 r1 q1 re1 w1 => w1 ρ1 H1 vx .refl r1 q1⟩
theorem xs_ret0 : PS X (.Return none pos) (RdZ X.K G a i d P fun _ => sRetN) := PS.imp ps_retN fun D σ H ⟨fs, ρ, h, env, s, w⟩ => w ρ H _ .refl s.r .non
theorem xs_expr {m : Fs → Mx} (he : PE X e (RdEx X.K G a i d P m)) (hs : swapsWith e none pos.line X.env = pure false := by rfl) : PS X (.Expr e pos) (RdZ X.K G a i d P fun fs => sEx (m fs)) := by
  refine PS.imp (ps_expr he hs) fun D σ H q => ?_
  obtain ⟨fs, ρ, h, env, s, w⟩ := q
  exact ⟨fs, ρ, h, env, s, WpS.bind w s.re fun x h1 ρ1 H1 vx f1 r1 q1 re1 w1 => w1.go r1 re1⟩
end
section
variable {X : Cx} {G : Nat → Option Addr} {a C : Addr} {oe : Obj} {cls : Value} {d : Option Addr} {pn : List (Addr × Obj)} {pos : Pos} {i : Nat}
theorem xe_fld {n x : Str} {np : Pos} (T : XfC X.K C) (hno : PySem.W.findIn X.K (.ref C) n = some none) (hz : Zc cls d oe) (hf : ∃ vs, oe.data = .fields vs) (hN : X.N[i]? = some x) (hv : Vis X.env.scope x := by first | exact Or.inl rfl | exact Or.inr (Or.inl rfl) | exact Or.inr (Or.inr rfl)) (hd : (x == ("__debug__" : Str)) = false := by decide)
    (hcd : (x == ("__classdict__" : Str)) = false := by decide) (hb : attributeBase (.Name x np) n X.env (eval (.Name x np) X.env) = eval (.Name x np) X.env := by rfl) :
    PE (X.suite a ((a, oe) :: pn)) (.Attribute (.Name x np) n pos) (RdEx X.K G a (some i) d (cls = .ref C) (eXf i n)) := by
  refine PE.imp (pe_xf T hno hz hf (pe_var (X := X.suite a ((a, oe) :: pn)) (i := i) hN hv hd hcd) hb) fun σ H Q q => ?_
  obtain ⟨fs, ρ, h, env, s, w⟩ := q
  unfold eXf at w
  cases eb : Nat.blt i env.length with
  | false => rw [eb] at w; exact w.elim
  | true =>
    rw [eb, cond_true] at w
    have hl : i < σ.length := by rw [← s.re.len]; exact Nat.le_of_ble_eq_true eb
    cases el : fs.lookup n with
    | none => rw [el] at w; exact w.elim
    | some y =>
      rw [el] at w
      refine ⟨_, s.at_ i rfl hl, rfl, s.p, ?_⟩
      rcases s.x with ⟨_, e2⟩ | ⟨dd, vs, e1, e2, e3⟩
      · rw [e2] at el; simp [List.lookup] at el
      · obtain ⟨v, l1, l2⟩ := e3.look el
        exact ⟨dd, vs, v, e1, e2, l1, w.ret s.r l2⟩
end
end MM

set_option Elab.async false
set_option linter.all false
set_option maxRecDepth 100000
set_option maxHeartbeats 4000000
set_option autoImplicit false
/-! len(o), o == p, x in o by the class's own methods -/
namespace MM
open PySem PySem.Spec PyProof.Rows L2

section
variable {A : Around} {E : Value → Shared → Prop} {s : Shared} {K : PySem.W.Frag} {x C f : Addr} {ox : Obj} {od : Option Obj} {name : Str}
theorem special_K {M : Model} {Q : Option Value → Shared → Prop} (X : K.In s.heap) (I : PySem.W.InstAt s.heap x ox C od) (hs : PySem.W.findIn K (.ref C) name = some (some (.ref f))) (hq : Q (some (.ref f)) s) : wpAny M A (specialOf (.ref x) name) Q E s := by
  unfold specialOf
  exact wpAny_bind (I.type.here ((PySem.W.looks_findIn X hs).here hq))
theorem callSpecial_K {M : Model} {args : List Value} {Q : Option Value → Shared → Prop} (X : K.In s.heap) (I : PySem.W.InstAt s.heap x ox C od) (hs : PySem.W.findIn K (.ref C) name = some (some (.ref f))) (hf : PySem.W.isFn K (.ref f) = true)
    (h : wpAny M A (call (.ref f) (.ref x :: args)) (fun v => Q (some v)) E s) : wpAny M A (callSpecial? (.ref x) name args) Q E s := by
  unfold callSpecial?
  refine wpAny_bind (special_K X I hs ?_)
  refine wpAny_holding (wpAny_bind ((PySem.W.bind_fn X _ (beq_iff_eq.mp hf)).here ?_))
  first
    | exact wpAny_bind (wpAny_mono h (fun v s' h' => wpAny_pure h') fun _ _ h' => h')
    | exact wpAny_pure (wpAny_bind (wpAny_mono h (fun v s' h' => wpAny_pure h') fun _ _ h' => h'))
theorem callUnless_K {M : Model} {args : List Value} {refuse : Sem Value} {Q : Option Value → Shared → Prop} (X : K.In s.heap) (I : PySem.W.InstAt s.heap x ox C od) (hs : PySem.W.findIn K (.ref C) name = some (some (.ref f))) (hf : PySem.W.isFn K (.ref f) = true)
    (h : wpAny M A (call (.ref f) (.ref x :: args)) (fun v => Q (some v)) E s) : wpAny M A (callSpecialUnlessNone? (.ref x) name args refuse) Q E s := by
  simp only [callSpecialUnlessNone?]
  refine wpAny_bind (special_K X I hs ?_)
  refine wpAny_holding (wpAny_bind ((PySem.W.bind_fn X _ (beq_iff_eq.mp hf)).here ?_))
  rw [if_neg (by simp)]
  exact wpAny_bind (wpAny_mono h (fun v s' h' => wpAny_pure h') fun _ _ h' => h')
end
section
variable {prog : Program} {w : World} {A : Around} {E : Value → Shared → Prop} {s : Shared} {K : PySem.W.Frag} {x C f : Addr} {ox : Obj} {od : Option Obj} {y : Value}
theorem len_K {Q : Value → Shared → Prop} (X : K.In s.heap) (I : PySem.W.InstAt s.heap x ox C od) (hs : PySem.W.findIn K (.ref C) "__len__" = some (some (.ref f))) (hf : PySem.W.isFn K (.ref f) = true)
    (hcall : wpAny (model prog w) A.in1 (call (.ref f) [.ref x]) (fun r s' => ∃ n u, r = .int n u ∧ 0 ≤ n ∧ n < 2 ^ 63 ∧ Q (.int n s'.toks) { s' with toks := s'.toks + 1 }) E s) :
    wpAny (model prog w) A (call (.builtin "len") [.ref x]) Q E s := by
  refine Calls.call_function_entry kind_len plain_len entry_len (args_len1 _) ?_
  unfold Builtin.«len»
  refine wpAny_bind (m := oneArg "len" _) (wpAny_pure ?_)
  refine wpAny_bind (m := callSpecial? (.ref x) (Str.ofString "__len__")) (callSpecial_K X I hs hf (wpAny_mono hcall (fun r s' hr => ?_) fun _ _ y => y))
  obtain ⟨n, u, rfl, h0, h1, hq⟩ := hr
  refine wpAny_bind (wpAny_holding (wpAny_pure ?_))
  refine wpAny_bind (wpAny_letGo ?_)
  show wpAny _ _ (if n < 0 then _ else _) _ _ _
  rw [if_neg (by omega)]
  show wpAny _ _ (if n ≥ 2 ^ 63 then _ else _) _ _ _
  rw [if_neg (by omega)]
  exact wpAny_bind (wpAny_mkInt (wpAny_pure ⟨_, rfl, hq⟩))
theorem contains_K {Q : Bool → Shared → Prop} (X : K.In s.heap) (I : PySem.W.InstAt s.heap x ox C od) (hs : PySem.W.findIn K (.ref C) "__contains__" = some (some (.ref f))) (hf : PySem.W.isFn K (.ref f) = true)
    (hcall : wpAny (model prog w) A (call (.ref f) [.ref x, y]) (fun r s' => ∃ b, r = .bool b ∧ Q b s') E s) : wpAny (model prog w) A (contains (.ref x) y) Q E s := by
  unfold contains
  refine wpAny_holding ?_
  show wpAny _ _ (specialOf (.ref x) "__contains__" >>= _) _ _ _
  refine wpAny_bind (special_K X I hs ?_)
  rw [if_neg (by simp)]
  refine wpAny_bind (callUnless_K X I hs hf (wpAny_mono hcall (fun r s' hr => ?_) fun _ _ z => z))
  obtain ⟨b, rfl, hq⟩ := hr
  exact wpAny_truthy_bool hq
theorem in_K {Q : Value → Shared → Prop} (X : K.In s.heap) (I : PySem.W.InstAt s.heap x ox C od) (hs : PySem.W.findIn K (.ref C) "__contains__" = some (some (.ref f))) (hf : PySem.W.isFn K (.ref f) = true)
    (hcall : wpAny (model prog w) A (call (.ref f) [.ref x, y]) (fun r s' => ∃ b, r = .bool b ∧ Q (.bool b) s') E s) : wpAny (model prog w) A (compareOp .In y (.ref x)) Q E s := by
  show wpAny _ _ (do return .bool (← contains (.ref x) y)) Q E s
  exact wpAny_bind (contains_K X I hs hf (wpAny_mono hcall (fun r s' ⟨b, e, q⟩ => ⟨b, e, wpAny_pure q⟩) fun _ _ z => z))
theorem notIn_K {Q : Value → Shared → Prop} (X : K.In s.heap) (I : PySem.W.InstAt s.heap x ox C od) (hs : PySem.W.findIn K (.ref C) "__contains__" = some (some (.ref f))) (hf : PySem.W.isFn K (.ref f) = true)
    (hcall : wpAny (model prog w) A (call (.ref f) [.ref x, y]) (fun r s' => ∃ b, r = .bool b ∧ Q (.bool (!b)) s') E s) : wpAny (model prog w) A (compareOp .NotIn y (.ref x)) Q E s := by
  show wpAny _ _ (do return .bool (!(← contains (.ref x) y))) Q E s
  exact wpAny_bind (contains_K X I hs hf (wpAny_mono hcall (fun r s' ⟨b, e, q⟩ => ⟨b, e, wpAny_pure q⟩) fun _ _ z => z))
end

/-! ### the mirrors -/
def ofRes (r : Res D) : Option (D × MH) := match r with
  | .ok v h => some (v, h)
  | _ => none
def natOf (r : Res D) : Option (D × MH) := match r with
  | .ok (.int n) h => bif decide (0 ≤ n) && decide (n < 9223372036854775808) then some (.int n, h) else none
  | _ => none
def blOf (r : Res D) : Option (Bool × MH) := match r with
  | .ok (.bl k) h => some (k, h)
  | _ => none
def ownLen (Cn : Nat) (fm : Fn) (ds : List D) (h : MH) : Option (D × MH) := match ds with
  | [x] => bif isIns Cn "__len__" x h then natOf (fm [x] h) else lenF [x] h
  | _ => none
def ownIn (Cn : Nat) (fm : Fn) (a b : D) (h : MH) : Option (D × MH) := bif isIns Cn "__contains__" b h then (blOf (fm [b, a] h)).map fun p => (.bl p.1, p.2) else inD a b h
def ownNotIn (Cn : Nat) (fm : Fn) (a b : D) (h : MH) : Option (D × MH) := bif isIns Cn "__contains__" b h then (blOf (fm [b, a] h)).map fun p => (.bl (!p.1), p.2) else notInD a b h
def ownEq (Cn : Nat) (fm : Fn) (a b : D) (h : MH) : Option (D × MH) := bif isIns Cn "__eq__" a h && isIns Cn "__eq__" b h then (blOf (fm [a, b] h)).map fun p => (.bl p.1, p.2) else eqD a b h
/-- a class's own special method -/
structure OwnM (X : Cx) (G : Nat → Option Addr) (Cn : Nat) (C : Addr) (mt : Str) (f : Addr) (fd : FuncData) (k : Nat) (ps : List Str) (n : Nat) (fm : Fn) : Prop where
  g : G Cn = some C
  cl : Cls X.K C
  at_ : PySem.W.findIn X.K (.ref C) mt = some (some (.ref f))
  fn : PySem.W.isFn X.K (.ref f) = true
  F : FnG X.prog X.w X.K X.mg X.base k f fd ps (spM X.K G n fm)
  b : Binds X.K fd ps []
section
variable {X : Cx} {G : Nat → Option Addr} {Cn : Nat} {C f : Addr} {fd : FuncData} {k : Nat} {ps : List Str} {fm : Fn}
/-- the method runs, at X.A or one deeper -/
theorem run_own {pins : List (Addr × Obj)} {σ : L2.St} {H : Hp} {s : Shared} {Q : VK} {us : List Value} {vs : List V} {sp : Sp} {A : Around} (hA : A = X.A ∨ A = X.A.in1) (F : FnG X.prog X.w X.K X.mg X.base k f fd ps sp) (hgd : X.A.guards = some []) (hr : Room (k + 1) X.A) (hb : Binds X.K fd ps [])
    (I : Inv X pins σ H s) (r : Vals vs us) (h : sp vs H Q (fun _ _ _ => False)) : wpAny (model X.prog X.w) A (call (.ref f) us) (EP X pins σ Q) X.xe s := by
  have hl : us.length = ps.length := r.length.symm.trans (F.len _ _ _ _ h)
  have b := hb s us I.kIn (by rw [List.append_nil]; exact hl)
  rw [List.append_nil] at b
  have hA2 : Room k A ∧ A.guards = some [] ∧ Env0 X.prog X.w X.K X.mg X.base A X.stack s H := by
    rcases hA with rfl | rfl
    · exact ⟨hr.mono (Nat.le_succ _), hgd, I.env0⟩
    · exact ⟨hr.in1, hgd, I.env0.in1⟩
  refine wpAny_call (codeAny_mono (F.run A X.stack s H ⟨us, []⟩ us vs Q _ hA2.1 hA2.2.1 hA2.2.2 b r h) fun z s' hq => ?_)
  rcases z with e | fl
  · exact passAt (W := fun _ _ _ _ => False) takes0 σ pins H s e s' I hq
  · cases fl with
    | ret u => exact I.after hq
    | _ => exact hq.elim
theorem ok_ownLen (O : OwnM X G Cn C "__len__" f fd k ps 1 fm) (hgd : X.A.guards = some []) (hr : Room (k + 1) X.A) : CallOK X G (.builtin "len") (ownLen Cn fm) := by
  intro pins s σ H vs us Q I r q
  obtain ⟨ρ, h, ds, w, h', R, rs, e, kk⟩ := q
  unfold ownLen at e
  split at e
  · rename_i x
    cases ei : isIns Cn "__len__" x h with
    | false => rw [ei] at e; exact ok_len pins s σ H vs us Q I r ⟨ρ, h, [x], w, h', R, rs, e, kk⟩
    | true =>
      rw [ei, cond_true] at e
      have rs0 := rs
      cases rs with
      | cons r1 r2 =>
        cases r2
        obtain ⟨a, dx, fs, rfl, e1, e2⟩ := isIns_ok O.g R r1 ei
        obtain ⟨u, rfl, ru⟩ := vals1 r
        cases ru
        obtain ⟨mA, J, _⟩ := ins_get I.hok e1
        obtain ⟨od, J, _⟩ := J.look
        unfold natOf at e
        split at e
        · rename_i n h2 ef
          cases eb : (decide (0 ≤ n) && decide (n < 9223372036854775808)) with
          | false => rw [eb] at e; cases e
          | true =>
            rw [eb] at e
            cases e
            rw [Bool.and_eq_true, decide_eq_true_eq, decide_eq_true_eq] at eb
            refine len_K I.kIn J O.at_ O.fn (wpAny_mono (run_own (.inr rfl) O.F hgd hr O.b I r (Q := fun v' H' => ∃ ρ', v' = .int n ∧ Fut X.K ρ H ρ' H' ∧ Rel X.K G ρ' h' H') ⟨ρ, h, _, R, rs0, rfl, by rw [ef]; exact fun ρ' H' v' f' r' q' => by cases q'; exact ⟨ρ', rfl, f', r'⟩⟩) (fun u s' z => ?_) fun _ _ z => z)
            obtain ⟨v, H', I', rv, ρ', rfl, f', r'⟩ := z
            obtain ⟨t, rfl⟩ := rv
            exact ⟨n, t, rfl, eb.1, eb.2, .int n, H', I'.tok _, ⟨_, rfl⟩, kk ρ' H' _ f' r' (.int n)⟩
        · cases e
  · cases e
theorem blOf_some {r : Res D} {k : Bool} {h : MH} (e : blOf r = some (k, h)) : r = .ok (.bl k) h := by
  unfold blOf at e
  split at e
  · cases e; rfl
  · cases e
theorem ok_ownIn (O : OwnM X G Cn C "__contains__" f fd k ps 2 fm) (hgd : X.A.guards = some []) (hr : Room (k + 1) X.A) : OpOK X G (compareOp .In) (ownIn Cn fm) := by
  intro pins s σ H x y v u Q I rx ry q
  obtain ⟨ρ, h, a, b, w, h', R, ra, rb, e, kk⟩ := q
  unfold ownIn at e
  cases ei : isIns Cn "__contains__" b h with
  | false => rw [ei] at e; exact ok_in (hu65 hr) pins s σ H x y v u Q I rx ry ⟨ρ, h, a, b, w, h', R, ra, rb, e, kk⟩
  | true =>
    rw [ei, cond_true] at e
    obtain ⟨⟨k2, h2⟩, ef, e2⟩ := Option.map_eq_some_iff.mp e
    cases e2
    have ef := blOf_some ef
    obtain ⟨p, dx, fs, rfl, e1, _⟩ := isIns_ok O.g R rb ei
    cases ry
    obtain ⟨mA, J, _⟩ := ins_get I.hok e1
    obtain ⟨od, J, _⟩ := J.look
    refine in_K I.kIn J O.at_ O.fn (wpAny_mono (run_own (.inl rfl) O.F hgd hr O.b I (.cons (show RelV (.ref p) (.ref p) from rfl) (.cons rx .nil)) (Q := fun v' H' => ∃ ρ', v' = .bl k2 ∧ Fut X.K ρ H ρ' H' ∧ Rel X.K G ρ' h2 H') ⟨ρ, h, _, R, .cons rb (.cons ra .nil), rfl, by rw [ef]; exact fun ρ' H' v' f' r' q' => by cases q'; exact ⟨ρ', rfl, f', r'⟩⟩) (fun u s' z => ?_) fun _ _ z => z)
    obtain ⟨v, H', I', rv, ρ', rfl, f', r'⟩ := z
    cases rv
    exact ⟨k2, rfl, .bl k2, H', I', rfl, kk ρ' H' _ f' r' (.bl k2)⟩
theorem ok_ownNotIn (O : OwnM X G Cn C "__contains__" f fd k ps 2 fm) (hgd : X.A.guards = some []) (hr : Room (k + 1) X.A) : OpOK X G (compareOp .NotIn) (ownNotIn Cn fm) := by
  intro pins s σ H x y v u Q I rx ry q
  obtain ⟨ρ, h, a, b, w, h', R, ra, rb, e, kk⟩ := q
  unfold ownNotIn at e
  cases ei : isIns Cn "__contains__" b h with
  | false => rw [ei] at e; exact ok_notIn (hu65 hr) pins s σ H x y v u Q I rx ry ⟨ρ, h, a, b, w, h', R, ra, rb, e, kk⟩
  | true =>
    rw [ei, cond_true] at e
    obtain ⟨⟨k2, h2⟩, ef, e2⟩ := Option.map_eq_some_iff.mp e
    cases e2
    have ef := blOf_some ef
    obtain ⟨p, dx, fs, rfl, e1, _⟩ := isIns_ok O.g R rb ei
    cases ry
    obtain ⟨mA, J, _⟩ := ins_get I.hok e1
    obtain ⟨od, J, _⟩ := J.look
    refine notIn_K I.kIn J O.at_ O.fn (wpAny_mono (run_own (.inl rfl) O.F hgd hr O.b I (.cons (show RelV (.ref p) (.ref p) from rfl) (.cons rx .nil)) (Q := fun v' H' => ∃ ρ', v' = .bl k2 ∧ Fut X.K ρ H ρ' H' ∧ Rel X.K G ρ' h2 H') ⟨ρ, h, _, R, .cons rb (.cons ra .nil), rfl, by rw [ef]; exact fun ρ' H' v' f' r' q' => by cases q'; exact ⟨ρ', rfl, f', r'⟩⟩) (fun u s' z => ?_) fun _ _ z => z)
    obtain ⟨v, H', I', rv, ρ', rfl, f', r'⟩ := z
    cases rv
    exact ⟨k2, rfl, .bl (!k2), H', I', rfl, kk ρ' H' _ f' r' (.bl (!k2))⟩
theorem ok_ownEq (O : OwnM X G Cn C "__eq__" f fd k ps 2 fm) (hgd : X.A.guards = some []) (hr : Room (k + 1) X.A) : OpOK X G (compareOp .Eq) (ownEq Cn fm) := by
  intro pins s σ H x y v u Q I rx ry q
  obtain ⟨ρ, h, a, b, w, h', R, ra, rb, e, kk⟩ := q
  unfold ownEq at e
  cases ei : (isIns Cn "__eq__" a h && isIns Cn "__eq__" b h) with
  | false => rw [ei] at e; exact ok_eq hr.units pins s σ H x y v u Q I rx ry ⟨ρ, h, a, b, w, h', R, ra, rb, e, kk⟩
  | true =>
    rw [ei, cond_true] at e
    rw [Bool.and_eq_true] at ei
    obtain ⟨⟨k2, h2⟩, ef, e2⟩ := Option.map_eq_some_iff.mp e
    cases e2
    have ef := blOf_some ef
    obtain ⟨p, dx, fs, rfl, e1, _⟩ := isIns_ok O.g R ra ei.1
    obtain ⟨p', dx', fs', rfl, e1', _⟩ := isIns_ok O.g R rb ei.2
    cases rx
    cases ry
    obtain ⟨mA, J, _⟩ := ins_get I.hok e1
    obtain ⟨mB, J', _⟩ := ins_get I.hok e1'
    obtain ⟨od, J, _⟩ := J.look
    obtain ⟨od', J', _⟩ := J'.look
    obtain ⟨m, hF⟩ := I.fr
    refine PySem.W.cmp_K (op := .Eq) (tb := .ref C) hr.units0 hF I.ok.mod.kin J J'.type (by simp [PySem.W.notFirst]) O.at_ O.fn (wpAny_mono (run_own (.inl rfl) O.F hgd hr O.b I (.cons (show RelV (.ref p) (.ref p) from rfl) (.cons (show RelV (.ref p') (.ref p') from rfl) .nil)) (Q := fun v' H' => ∃ ρ', v' = .bl k2 ∧ Fut X.K ρ H ρ' H' ∧ Rel X.K G ρ' h2 H') ⟨ρ, h, _, R, .cons ra (.cons rb .nil), rfl, by rw [ef]; exact fun ρ' H' v' f' r' q' => by cases q'; exact ⟨ρ', rfl, f', r'⟩⟩) (fun u s' z => ?_) fun _ _ z => z)
    obtain ⟨v, H', I', rv, ρ', rfl, f', r'⟩ := z
    cases rv
    exact ⟨.bl k2, H', I', rfl, kk ρ' H' _ f' r' (.bl k2)⟩
end
end MM

set_option Elab.async false
set_option linter.all false
set_option maxRecDepth 100000
set_option maxHeartbeats 4000000
set_option autoImplicit false
/-! a dict of the module with text keys and texts: d[x], x in d -/
namespace MM
open PySem PySem.Spec PyProof.Rows L2

inductive ETab : List DictEntry → List (Str × Str) → Prop
  | nil : ETab [] []
  | cons {e : DictEntry} {x y : Str} {t u : Tok} {r : List DictEntry} {r' : List (Str × Str)} (hk : e.key = .str x t) (hv : e.val = .str y u) (h : ETab r r') : ETab (e :: r) ((x, y) :: r')
theorem ETab.find : ∀ {es : List DictEntry} {tb : List (Str × Str)} {z : Str}, ETab es tb → (es.any (·.refKey) = false) ∧ ((∃ y e u, tb.lookup z = some y ∧ es.find? (·.key.isStr z) = some e ∧ e.val = .str y u) ∨ (tb.lookup z = none ∧ es.find? (·.key.isStr z) = none))
  | _, _, z, .nil => ⟨rfl, .inr ⟨rfl, rfl⟩⟩
  | _, _, z, .cons (e := e) (x := x) (y := y) (t := t) (u := u) (r := r) (r' := r') hk hv h => by
    obtain ⟨h1, h2⟩ := h.find (z := z)
    have er : e.refKey = false := by unfold DictEntry.refKey; rw [hk]
    refine ⟨by rw [List.any_cons, er, h1]; rfl, ?_⟩
    by_cases hz : z = x
    · subst hz
      refine .inl ⟨y, e, u, by simp [List.lookup], ?_, hv⟩
      rw [List.find?_cons, hk]
      have : (Value.str z t).isStr z = true := by simp [Value.isStr]
      rw [this]
    · have hb : (z == x) = false := by simpa using hz
      have hs : (Value.str x t).isStr z = false := by simp [Value.isStr, Ne.symm hz]
      simp only [List.lookup, hb, List.find?_cons, hk, hs]
      exact h2
/-- the module's dict at d: tb -/
structure KT (K : PySem.W.Frag) (w : World) (d : Addr) (tb : List (Str × Str)) : Prop where
  ex : ∃ es n, K.lookup d = some ⟨.type "dict", none, .dict es n, #[]⟩ ∧ PySem.W.KeysLit w.params es.toList ∧ ETab es.toList tb
  low : (d == sysModules) = false
theorem KT.ns {K : PySem.W.Frag} {w : World} {d : Addr} {tb : List (Str × Str)} (T : KT K w d tb) (z : Str) : (∃ y u, tb.lookup z = some y ∧ PySem.W.nsIn K d z = some (some (.str y u))) ∨ (tb.lookup z = none ∧ PySem.W.nsIn K d z = some none) := by
  obtain ⟨es, n, e1, e2, e3⟩ := T.ex
  obtain ⟨h1, h2⟩ := e3.find (z := z)
  unfold PySem.W.nsIn
  rw [e1]
  rcases h2 with ⟨y, e, u, p1, p2, p3⟩ | ⟨p1, p2⟩
  · exact .inl ⟨y, u, p1, by simp only [p2, p3]⟩
  · exact .inr ⟨p1, by simp only [p2, h1]; rfl⟩
def kdIx (n : Nat) (tb : List (Str × Str)) (a b : D) (h : MH) : Option (D × MH) := match a, b with
  | .stat m, .str z => bif Nat.beq m n then (match tb.lookup z with
    | some y => some (.str y, h)
    | none => none) else none
  | _, _ => none
def kdIn (n : Nat) (tb : List (Str × Str)) (a b : D) (h : MH) : Option (D × MH) := match b, a with
  | .stat m, .str z => bif Nat.beq m n then some (.bl (tb.lookup z).isSome, h) else none
  | _, _ => none
section
variable {X : Cx} {G : Nat → Option Addr} {n : Nat} {d : Addr} {tb : List (Str × Str)} {a b : Expr} {W : WX} {pos : Pos}
theorem ok_kdIn (hG : G n = some d) (T : KT X.K X.w d tb) : OpOK X G (compareOp .In) (kdIn n tb) := by
  intro pins s σ H x y v u Q I rx ry q
  obtain ⟨ρ, h, a, b, w, h', R, ra, rb, e, k⟩ := q
  obtain ⟨es, m, e1, e2, e3⟩ := T.ex
  unfold kdIn at e
  split at e
  · rename_i j z
    cases eb : Nat.beq j n with
    | false => rw [eb] at e; cases e
    | true =>
      rw [eb] at e
      cases e
      obtain rfl := Nat.eq_of_beq_eq_true eb
      cases ra
      cases rb with
      | stat hg =>
        rw [hG] at hg; cases hg
        refine op_in_kd ⟨e1, e2, T.low⟩ pins s σ H _ _ v u Q I rx ry ?_
        rcases T.ns z with ⟨y, u', p1, p2⟩ | ⟨p1, p2⟩
        · exact ⟨z, _, rfl, rfl, p2, by rw [p1] at k; exact k ρ H _ .refl R (.bl true)⟩
        · exact ⟨z, _, rfl, rfl, p2, by rw [p1] at k; exact k ρ H _ .refl R (.bl false)⟩
  · cases e
theorem kdIx_ok (hG : G n = some d) (T : KT X.K X.w d tb) : IxR X (rOp X.K G (kdIx n tb)) := by
  intro value slice pins s σ H x y v u Q I rx ry q hs
  obtain ⟨ρ, h, a, b, w, h', R, ra, rb, e, k⟩ := q
  obtain ⟨es, m, e1, e2, e3⟩ := T.ex
  unfold kdIx at e
  split at e
  · rename_i j z
    cases eb : Nat.beq j n with
    | false => rw [eb] at e; cases e
    | true =>
      rw [eb] at e
      obtain rfl := Nat.eq_of_beq_eq_true eb
      cases rb
      cases ra with
      | stat hg =>
        rw [hG] at hg; cases hg
        refine ix_kdict value slice pins s σ H _ _ v u Q I rx ry ?_ hs
        rcases T.ns z with ⟨y, u', p1, p2⟩ | ⟨p1, p2⟩
        · rw [p1] at e
          cases e
          exact ⟨d, z, .str y, rfl, rfl, ⟨es, m, _, e1, e2, p2, ⟨_, rfl⟩⟩, k ρ H _ .refl R (.str y)⟩
        · rw [p1] at e; cases e
  · cases e
theorem me_kix {ma mb : Mx} (hG : G n = some d) (T : KT X.K X.w d tb) (ha : PE X a (RdE X.K G W ma)) (hb : PE X b (RdE X.K G W mb)) (hs : PlainIx b := by exact fun _ _ => rfl) : PE X (.Subscript a b pos) (RdE X.K G W (eOp (kdIx n tb) ma mb)) :=
  PE.imp (pe_ix (kdIx_ok hG T) ha hb hs) fun _ _ _ q => two_op q
end
end MM

set_option Elab.async false
set_option linter.all false
set_option autoImplicit false
namespace MM
open PySem PySem.Spec PyProof.Rows L2
/-- the j-th statement of a class -/
def subS (s : Stmt) (j : Nat) : Stmt := match s with
  | .ClassDef _ _ _ b _ _ _ _ _ _ _ => b.getD j (.Pass ⟨0, 0, 0, 0⟩)
  | _ => .Pass ⟨0, 0, 0, 0⟩
end MM

set_option Elab.async false
set_option linter.all false
set_option maxRecDepth 100000
set_option maxHeartbeats 4000000
set_option autoImplicit false
/-! the feed of the laws -/
namespace MF
open PySem PySem.Spec PyProof.Rows L2 MM
def b__law_feed : Ms :=
  (sSeq (sSet 2 (eIfM (tBl (eOp ltD (eVar 1) (eCB lenF (aCons (eVar 0) aNil)))) (eOp ixD (eVar 0) (eVar 1)) (eOp addD (eOp mulD (eC (.int (83))) (eVar 1)) (eC (.int (29))))))
   
      (sSeq (sSet 3 (eCB maxF (aCons (eC (.int (0))) (aCons (eOp subD (eCB absF (aCons (eVar 2) aNil)) (eOp powD (eC (.int (10))) (eC (.int (18))))) aNil))))
    (sSeq (sSet 4 (eOp
      modD (eCB intF (aCons (eOp addD (eOp addD (eOp mulD (eVar 2) (eC (.int (6364136223846793005)))) (eOp mulD (eC (.int (7919))) (eVar 1))) (eC (.int (1442695040888963407))))
      aNil)) (eC (.int (2305843009213693951)))))
    (sRet (eLst (aCons (eVar 3) (aCons (eVar 4) aNil)))))))
def m__law_feed : Fn := runD 5 b__law_feed
def b__law_take : Ms :=
  (sSeq (sIf (tBl (eOp gtD (eOp ixD (eVar 0) (eC (.int (0)))) (eC (.int (0))))) (sSeq (sSet 2 (eOp modD (eCB intF (aCons (eOp ixD (eVar 0) (eC (.int (0)))) aNil)) (eVar 1)))
   
      (sSeq (sSub (eVar 0) (eC (.int (0))) (eOp fdivD (eOp ixD (eVar 0) (eC (.int (0)))) (eVar 1)))
    (sRet (eVar 2)))) sNil)
    (sSeq (sSub (eVar 0) (eC (.int (1))) (eOp modD
      (eCB intF (aCons (eOp addD (eOp mulD (eOp ixD (eVar 0) (eC (.int (1)))) (eC (.int (6364136223846793005)))) (eC (.int (1442695040888963407)))) aNil)) (eC (.int
      (2305843009213693951)))))
    (sRet (eOp modD (eCB intF (aCons (eOp fdivD (eOp ixD (eVar 0) (eC (.int (1)))) (eC (.int (65536)))) aNil)) (eVar 1)))))
def m__law_take : Fn := runD 3 b__law_take
def b__law_pick : Ms :=
  (sRet (eOp ixD (eVar 1) (eF m__law_take (aCons (eVar 0) (aCons (eCB lenF (aCons (eVar 1) aNil)) aNil)))))
def m__law_pick : Fn := runD 2 b__law_pick
theorem ix0 (a b : D) : L2.atI [a, b] 0 = some a := rfl
theorem ix1 (a b : D) : L2.atI [a, b] 1 = some b := rfl
theorem ixn0 : L2.ixN 2 0 = some 0 := rfl
theorem ixn1 : L2.ixN 2 1 = some 1 := rfl
theorem sm1 : small64 6364136223846793005 = true := by decide
/-- a draw -/
theorem take {i : Nat} {h : MH} (l : i < h.n) (f : ∃ a b : Int, h.get i = some (.lst [.int a, .int b])) {m : Int} (h0 : 0 < m) (h1 : m < 1073741824) :
    ∃ (r : Int) (h' : MH), 0 ≤ r ∧ r < m ∧ m__law_take [.ref i, .int m] h = .ok (.int r) h' ∧ Fd i h h' ∧ h'.n = h.n := by
  obtain ⟨a, b, f⟩ := f
  have sq := MH.seq_lst f
  unfold m__law_take b__law_take
  by_cases hp : 0 < a
  · refine ⟨a % m, h.set i (.lst [.int (a / m), .int b]), Int.emod_nonneg _ (by omega), Int.emod_lt_of_pos _ h0, ?_, Fd.set l _ _, rfl⟩
    simp [runD, sSeq, sRet, sIf, sSet, sEx, sSub, sNil, eVar, eC, eOp, eChain, tTruth, tBl, tNotM, tAndM, tOrM, eAndM, eOrM, eNotM, eIfM, aNil, aCons, eTup, eLst, mkLst, mkTup, eCB, eF, eSl, oPart, oNone, eUn, isB, truD, isiF, tyOf, subT, leD, ltD, gtD, geD, cmpD, lenF, lenN, neD, eqD, eqB, ofOpt, MM.keep, Res.bind, Res.toS, ixD, addD, subD, modD, fdivD, intF, List.replicate, setD, negD, mulD, sizeLine, sq, f, ix0, ix1, ixn0, hp, h0, h1]
  · let s : Int := (b * 6364136223846793005 + 1442695040888963407) % 2305843009213693951
    have sq2 := MH.seq_lst (MH.get_set_same h i (.lst [.int a, .int s]))
    refine ⟨s / 65536 % m, h.set i (.lst [.int a, .int s]), Int.emod_nonneg _ (by omega), Int.emod_lt_of_pos _ h0, ?_, Fd.set l _ _, rfl⟩
    simp [runD, sSeq, sRet, sIf, sSet, sEx, sSub, sNil, eVar, eC, eOp, eChain, tTruth, tBl, tNotM, tAndM, tOrM, eAndM, eOrM, eNotM, eIfM, aNil, aCons, eTup, eLst, mkLst, mkTup, eCB, eF, eSl, oPart, oNone, eUn, isB, truD, isiF, tyOf, subT, leD, ltD, gtD, geD, cmpD, lenF, lenN, neD, eqD, eqB, ofOpt, MM.keep, Res.bind, Res.toS, ixD, addD, subD, modD, fdivD, intF, List.replicate, setD, negD, mulD, sizeLine, sq, f, ix0, ix1, ixn0, ixn1, hp, h0, h1, sm1, sq2, s]
theorem atI_nat {α : Type} {xs : List α} {r : Int} (h0 : 0 ≤ r) (h1 : r < xs.length) : ∃ x, x ∈ xs ∧ L2.atI xs r = some x := by
  obtain ⟨n, rfl⟩ := Int.eq_ofNat_of_zero_le h0
  have hn : n < xs.length := by omega
  refine ⟨xs[n], List.getElem_mem _, ?_⟩
  unfold L2.atI
  rw [show L2.ixN xs.length (n : Int) = some n from by unfold L2.ixN; simp [runD, sSeq, sRet, sIf, sSet, sEx, sSub, sNil, eVar, eC, eOp, eChain, tTruth, tBl, tNotM, tAndM, tOrM, eAndM, eOrM, eNotM, eIfM, aNil, aCons, eTup, eLst, mkLst, mkTup, eCB, eF, eSl, oPart, oNone, eUn, isB, truD, isiF, tyOf, subT, leD, ltD, gtD, geD, cmpD, lenF, lenN, neD, eqD, eqB, ofOpt, MM.keep, Res.bind, Res.toS, ixD, addD, subD, modD, fdivD, intF, List.replicate, setD, negD, mulD, sizeLine, h1]]
  simp [runD, sSeq, sRet, sIf, sSet, sEx, sSub, sNil, eVar, eC, eOp, eChain, tTruth, tBl, tNotM, tAndM, tOrM, eAndM, eOrM, eNotM, eIfM, aNil, aCons, eTup, eLst, mkLst, mkTup, eCB, eF, eSl, oPart, oNone, eUn, isB, truD, isiF, tyOf, subT, leD, ltD, gtD, geD, cmpD, lenF, lenN, neD, eqD, eqB, ofOpt, MM.keep, Res.bind, Res.toS, ixD, addD, subD, modD, fdivD, intF, List.replicate, setD, negD, mulD, sizeLine, hn]
theorem pick {i j : Nat} {h : MH} (l : i < h.n) (f : ∃ a b : Int, h.get i = some (.lst [.int a, .int b])) {xs : List D} (g : h.get j = some (.lst xs)) (hj : j ≠ i) (lj : j < h.n) (h0 : xs ≠ []) (h1 : xs.length < 1000) :
    ∃ (x : D) (h' : MH), x ∈ xs ∧ m__law_pick [.ref i, .ref j] h = .ok x h' ∧ Fd i h h' ∧ h'.n = h.n := by
  have lp : 0 < xs.length := List.length_pos_iff.mpr h0
  obtain ⟨r, h', a1, a2, a3, a4, a5⟩ := take l f (m := (xs.length : Int)) (by omega) (by omega)
  obtain ⟨x, b1, b2⟩ := atI_nat a1 a2
  have sq := MH.seq_lst g
  have sq' := MH.seq_lst ((a4.ot j hj lj).trans g)
  refine ⟨x, h', b1, ?_, a4, a5⟩
  unfold m__law_pick b__law_pick
  simp [runD, sSeq, sRet, sIf, sSet, sEx, sSub, sNil, eVar, eC, eOp, eChain, tTruth, tBl, tNotM, tAndM, tOrM, eAndM, eOrM, eNotM, eIfM, aNil, aCons, eTup, eLst, mkLst, mkTup, eCB, eF, eSl, oPart, oNone, eUn, isB, truD, isiF, tyOf, subT, leD, ltD, gtD, geD, cmpD, lenF, lenN, neD, eqD, eqB, ofOpt, MM.keep, Res.bind, Res.toS, ixD, addD, subD, modD, fdivD, intF, List.replicate, setD, negD, mulD, sizeLine, sq, a3, sq', b2]
theorem feed {h : MH} {k : Int} {ns : List Int} {b : Bool} (hs : h.get 0 = some (if b = true then .kl (ns.map D.int) else .ro (ns.map D.int))) (h0 : 0 ≤ k) (h1 : k < 100) :
    ∃ h', m__law_feed [.ref 0, .int k] h = .ok (.ref h.n) h' ∧ Ext h h' ∧ Fd h.n h' h' := by
  have sq : h.seq 0 = some (ns.map D.int) := by unfold MH.seq; rw [hs]; cases b <;> kernel_rfl
  have run : ∃ a b : Int, m__law_feed [.ref 0, .int k] h = .ok (.ref h.n) (h.add (.lst [.int a, .int b])) := by
    unfold m__law_feed b__law_feed
    by_cases hk : k < ns.length
    · obtain ⟨x, b1, b2⟩ := atI_nat (xs := ns.map D.int) h0 (by simpa [runD, sSeq, sRet, sIf, sSet, sEx, sSub, sNil, eVar, eC, eOp, eChain, tTruth, tBl, tNotM, tAndM, tOrM, eAndM, eOrM, eNotM, eIfM, aNil, aCons, eTup, eLst, mkLst, mkTup, eCB, eF, eSl, oPart, oNone, eUn, isB, truD, isiF, tyOf, subT, leD, ltD, gtD, geD, cmpD, lenF, lenN, neD, eqD, eqB, ofOpt, MM.keep, Res.bind, Res.toS, ixD, addD, subD, modD, fdivD, intF, List.replicate, setD, negD, mulD, sizeLine] using hk)
      obtain ⟨c, _, rfl⟩ := List.mem_map.mp b1
      simp [runD, sSeq, sRet, sIf, sSet, sEx, sSub, sNil, eVar, eC, eOp, eChain, tTruth, tBl, tNotM, tAndM, tOrM, eAndM, eOrM, eNotM, eIfM, aNil, aCons, eTup, eLst, mkLst, mkTup, eCB, eF, eSl, oPart, oNone, eUn, isB, truD, isiF, tyOf, subT, leD, ltD, gtD, geD, cmpD, lenF, lenN, neD, eqD, eqB, ofOpt, MM.keep, Res.bind, Res.toS, ixD, addD, subD, modD, fdivD, intF, List.replicate, setD, negD, mulD, sizeLine, sq, hk, b2, sm1, absF, maxF, powD, MM.small64, sizeLine]
      exact ⟨_, _, rfl⟩
    · simp [runD, sSeq, sRet, sIf, sSet, sEx, sSub, sNil, eVar, eC, eOp, eChain, tTruth, tBl, tNotM, tAndM, tOrM, eAndM, eOrM, eNotM, eIfM, aNil, aCons, eTup, eLst, mkLst, mkTup, eCB, eF, eSl, oPart, oNone, eUn, isB, truD, isiF, tyOf, subT, leD, ltD, gtD, geD, cmpD, lenF, lenN, neD, eqD, eqB, ofOpt, MM.keep, Res.bind, Res.toS, ixD, addD, subD, modD, fdivD, intF, List.replicate, setD, negD, mulD, sizeLine, sq, hk, sm1, absF, maxF, powD, MM.small64, sizeLine]
      exact ⟨_, _, rfl⟩
  obtain ⟨a, b, e⟩ := run
  exact ⟨_, e, .add _, .refl (by simp [runD, sSeq, sRet, sIf, sSet, sEx, sSub, sNil, eVar, eC, eOp, eChain, tTruth, tBl, tNotM, tAndM, tOrM, eAndM, eOrM, eNotM, eIfM, aNil, aCons, eTup, eLst, mkLst, mkTup, eCB, eF, eSl, oPart, oNone, eUn, isB, truD, isiF, tyOf, subT, leD, ltD, gtD, geD, cmpD, lenF, lenN, neD, eqD, eqB, ofOpt, MM.keep, Res.bind, Res.toS, ixD, addD, subD, modD, fdivD, intF, List.replicate, setD, negD, mulD, sizeLine]) ⟨a, b, MH.get_add_same _ _⟩⟩
theorem log_le {i : Int} (h0 : -70 ≤ i) (h1 : i < 70) : i.natAbs.log2 < 190 := by
  have : i.natAbs < 2 ^ 190 := Nat.lt_of_lt_of_le (by omega : i.natAbs < 71) (by decide)
  by_cases hz : i.natAbs = 0
  · rw [hz]; decide
  · exact (Nat.log2_lt hz).mpr this
theorem ints_lo : ∀ bs : List Int, D.los 0 (bs.map D.int) = true
  | [] => rfl
  | b :: bs => by simp [runD, sSeq, sRet, sIf, sSet, sEx, sSub, sNil, eVar, eC, eOp, eChain, tTruth, tBl, tNotM, tAndM, tOrM, eAndM, eOrM, eNotM, eIfM, aNil, aCons, eTup, eLst, mkLst, mkTup, eCB, eF, eSl, oPart, oNone, eUn, isB, truD, isiF, tyOf, subT, leD, ltD, gtD, geD, cmpD, lenF, lenN, neD, eqD, eqB, ofOpt, MM.keep, Res.bind, Res.toS, ixD, addD, subD, modD, fdivD, intF, List.replicate, setD, negD, mulD, sizeLine, D.los, D.lo, ints_lo bs]
theorem bools_map : ∀ bs : List Bool, boolsD (bs.map D.bl) = some bs
  | [] => rfl
  | b :: bs => by simp [runD, sSeq, sRet, sIf, sSet, sEx, sSub, sNil, eVar, eC, eOp, eChain, tTruth, tBl, tNotM, tAndM, tOrM, eAndM, eOrM, eNotM, eIfM, aNil, aCons, eTup, eLst, mkLst, mkTup, eCB, eF, eSl, oPart, oNone, eUn, isB, truD, isiF, tyOf, subT, leD, ltD, gtD, geD, cmpD, lenF, lenN, neD, eqD, eqB, ofOpt, MM.keep, Res.bind, Res.toS, ixD, addD, subD, modD, fdivD, intF, List.replicate, setD, negD, mulD, sizeLine, boolsD, bools_map bs]
/-- a state: a draw for each base -/
def b__law_state : Ms :=
  (sRet (eCB tupleF (aCons (eLc (iSeq (eVar 1)) (.nm 2) tYesM (eF m__law_take (aCons (eVar 0) (aCons (eVar 2) aNil))) [2]) aNil)))
def m__law_state : Fn := runD 3 b__law_state
/-- a digit for each base, where the loop stands -/
theorem digits {i L s : Nat} {bs : List Int} (hb : bs.length ≤ 64) (h2 : ∀ b ∈ bs, 1 ≤ b ∧ b ≤ 64) {env : ME} (he : env[0]? = some (some (.ref i))) (hs : 0 < s) (h5 : s < env.length) (h0 : MH) (hL : L = h0.n) (f : Fd i h0 h0) :
    ∃ (ds : List Int) (h' : MH), lcL (.tup (bs.map D.int)) (.nm s) tYesM (eF m__law_take (aCons (eVar 0) (aCons (eVar s) aNil))) env L (MI.tup (bs.map D.int)).n 0 (h0.add (.lst [])) = some h' ∧ Fd i h0 h' ∧ h'.n = L + 1 ∧ h'.get L = some (.lst (ds.map D.int)) ∧ ds.length = bs.length ∧ (∀ k (h1 : k < ds.length) (h2 : k < bs.length), 0 ≤ ds[k] ∧ ds[k] < bs[k]) := by
  have lt := f.lt
  obtain ⟨acc, h', e, q⟩ := lcL_spec (it := .tup (bs.map D.int)) (t := .nm s) (tt := tYesM) (te := eF m__law_take (aCons (eVar 0) (aCons (eVar s) aNil))) (env := env) (L := L)
    (fun k acc h => Fd i h0 h ∧ h.n = L + 1 ∧ h.get L = some (.lst acc) ∧ ∃ ds : List Int, acc = ds.map D.int ∧ ds.length = k ∧ ∀ j (h1 : j < ds.length) (h2 : j < bs.length), 0 ≤ ds[j] ∧ ds[j] < bs[j]) (acc0 := []) (h0 := h0.add (.lst []))
    ⟨f.add _, by simp [runD, sSeq, sRet, sIf, sSet, sEx, sSub, sNil, eVar, eC, eOp, eChain, tTruth, tBl, tNotM, tAndM, tOrM, eAndM, eOrM, eNotM, eIfM, aNil, aCons, eTup, eLst, mkLst, mkTup, eCB, eF, eSl, oPart, oNone, eUn, isB, truD, isiF, tyOf, subT, leD, ltD, gtD, geD, cmpD, lenF, lenN, neD, eqD, eqB, ofOpt, MM.keep, Res.bind, Res.toS, ixD, addD, subD, modD, fdivD, intF, List.replicate, setD, negD, mulD, sizeLine, hL], by rw [hL]; exact MH.get_add_same _ _, [], rfl, rfl, fun j h1 => by cases h1⟩
    (fun k acc h hk ⟨q1, q2, q3, ds, q4, q5, q6⟩ => by
      have hk' : k < bs.length := by simpa [runD, sSeq, sRet, sIf, sSet, sEx, sSub, sNil, eVar, eC, eOp, eChain, tTruth, tBl, tNotM, tAndM, tOrM, eAndM, eOrM, eNotM, eIfM, aNil, aCons, eTup, eLst, mkLst, mkTup, eCB, eF, eSl, oPart, oNone, eUn, isB, truD, isiF, tyOf, subT, leD, ltD, gtD, geD, cmpD, lenF, lenN, neD, eqD, eqB, ofOpt, MM.keep, Res.bind, Res.toS, ixD, addD, subD, modD, fdivD, intF, List.replicate, setD, negD, mulD, sizeLine, MI.n] using hk
      obtain ⟨b0, b1⟩ := h2 _ (List.getElem_mem hk')
      obtain ⟨r, h2', a1, a2, a3, a4, a5⟩ := take q1.lt q1.fd (m := bs[k]) (by omega) (by omega)
      refine ⟨.int bs[k], env.set s (some (.int bs[k])), by simp [runD, sSeq, sRet, sIf, sSet, sEx, sSub, sNil, eVar, eC, eOp, eChain, tTruth, tBl, tNotM, tAndM, tOrM, eAndM, eOrM, eNotM, eIfM, aNil, aCons, eTup, eLst, mkLst, mkTup, eCB, eF, eSl, oPart, oNone, eUn, isB, truD, isiF, tyOf, subT, leD, ltD, gtD, geD, cmpD, lenF, lenN, neD, eqD, eqB, ofOpt, MM.keep, Res.bind, Res.toS, ixD, addD, subD, modD, fdivD, intF, List.replicate, setD, negD, mulD, sizeLine, MI.at, hk'], rfl, .inr ⟨h, .int r, h2', rfl, ?_, ?_, ?_, ?_⟩⟩
      · have e5 : (env.set s (some (D.int bs[k])))[s]? = some (some (D.int bs[k])) := by simp [runD, sSeq, sRet, sIf, sSet, sEx, sSub, sNil, eVar, eC, eOp, eChain, tTruth, tBl, tNotM, tAndM, tOrM, eAndM, eOrM, eNotM, eIfM, aNil, aCons, eTup, eLst, mkLst, mkTup, eCB, eF, eSl, oPart, oNone, eUn, isB, truD, isiF, tyOf, subT, leD, ltD, gtD, geD, cmpD, lenF, lenN, neD, eqD, eqB, ofOpt, MM.keep, Res.bind, Res.toS, ixD, addD, subD, modD, fdivD, intF, List.replicate, setD, negD, mulD, sizeLine, h5]
        have e0 : (env.set s (some (D.int bs[k])))[0]? = some (some (D.ref i)) := by rw [List.getElem?_set_ne (by omega)]; exact he
        simp only [eF, aCons, aNil, eVar, e5, e0, Res.bind, a3]
      · rw [a4.ot L (by omega) (by omega)]; exact q3
      · have : acc.length = k := by rw [q4]; simpa [runD, sSeq, sRet, sIf, sSet, sEx, sSub, sNil, eVar, eC, eOp, eChain, tTruth, tBl, tNotM, tAndM, tOrM, eAndM, eOrM, eNotM, eIfM, aNil, aCons, eTup, eLst, mkLst, mkTup, eCB, eF, eSl, oPart, oNone, eUn, isB, truD, isiF, tyOf, subT, leD, ltD, gtD, geD, cmpD, lenF, lenN, neD, eqD, eqB, ofOpt, MM.keep, Res.bind, Res.toS, ixD, addD, subD, modD, fdivD, intF, List.replicate, setD, negD, mulD, sizeLine] using q5
        have : (64 : Nat) < sizeLine := by decide
        omega
      · refine ⟨(q1.trans a4).setO (by omega) (by omega) _, by simp [runD, sSeq, sRet, sIf, sSet, sEx, sSub, sNil, eVar, eC, eOp, eChain, tTruth, tBl, tNotM, tAndM, tOrM, eAndM, eOrM, eNotM, eIfM, aNil, aCons, eTup, eLst, mkLst, mkTup, eCB, eF, eSl, oPart, oNone, eUn, isB, truD, isiF, tyOf, subT, leD, ltD, gtD, geD, cmpD, lenF, lenN, neD, eqD, eqB, ofOpt, MM.keep, Res.bind, Res.toS, ixD, addD, subD, modD, fdivD, intF, List.replicate, setD, negD, mulD, sizeLine, a5, q2], MH.get_set_same _ _ _, ds ++ [r], by simp [runD, sSeq, sRet, sIf, sSet, sEx, sSub, sNil, eVar, eC, eOp, eChain, tTruth, tBl, tNotM, tAndM, tOrM, eAndM, eOrM, eNotM, eIfM, aNil, aCons, eTup, eLst, mkLst, mkTup, eCB, eF, eSl, oPart, oNone, eUn, isB, truD, isiF, tyOf, subT, leD, ltD, gtD, geD, cmpD, lenF, lenN, neD, eqD, eqB, ofOpt, MM.keep, Res.bind, Res.toS, ixD, addD, subD, modD, fdivD, intF, List.replicate, setD, negD, mulD, sizeLine, q4], by simp [runD, sSeq, sRet, sIf, sSet, sEx, sSub, sNil, eVar, eC, eOp, eChain, tTruth, tBl, tNotM, tAndM, tOrM, eAndM, eOrM, eNotM, eIfM, aNil, aCons, eTup, eLst, mkLst, mkTup, eCB, eF, eSl, oPart, oNone, eUn, isB, truD, isiF, tyOf, subT, leD, ltD, gtD, geD, cmpD, lenF, lenN, neD, eqD, eqB, ofOpt, MM.keep, Res.bind, Res.toS, ixD, addD, subD, modD, fdivD, intF, List.replicate, setD, negD, mulD, sizeLine, q5], fun j h1 h2 => ?_⟩
        by_cases hj : j < ds.length
        · rw [List.getElem_append_left hj]; exact q6 j hj h2
        · have : j = ds.length := by simp [runD, sSeq, sRet, sIf, sSet, sEx, sSub, sNil, eVar, eC, eOp, eChain, tTruth, tBl, tNotM, tAndM, tOrM, eAndM, eOrM, eNotM, eIfM, aNil, aCons, eTup, eLst, mkLst, mkTup, eCB, eF, eSl, oPart, oNone, eUn, isB, truD, isiF, tyOf, subT, leD, ltD, gtD, geD, cmpD, lenF, lenN, neD, eqD, eqB, ofOpt, MM.keep, Res.bind, Res.toS, ixD, addD, subD, modD, fdivD, intF, List.replicate, setD, negD, mulD, sizeLine] at h1; omega
          subst this
          rw [List.getElem_append_right (Nat.le_refl _)]
          simp [runD, sSeq, sRet, sIf, sSet, sEx, sSub, sNil, eVar, eC, eOp, eChain, tTruth, tBl, tNotM, tAndM, tOrM, eAndM, eOrM, eNotM, eIfM, aNil, aCons, eTup, eLst, mkLst, mkTup, eCB, eF, eSl, oPart, oNone, eUn, isB, truD, isiF, tyOf, subT, leD, ltD, gtD, geD, cmpD, lenF, lenN, neD, eqD, eqB, ofOpt, MM.keep, Res.bind, Res.toS, ixD, addD, subD, modD, fdivD, intF, List.replicate, setD, negD, mulD, sizeLine]
          subst q5
          exact ⟨a1, a2⟩)
    (fun _ _ _ => rfl)
  obtain ⟨q1, q2, q3, ds, q4, q5, q6⟩ := q
  exact ⟨ds, h', e, q1, q2, by rw [q3, q4], by simpa [runD, sSeq, sRet, sIf, sSet, sEx, sSub, sNil, eVar, eC, eOp, eChain, tTruth, tBl, tNotM, tAndM, tOrM, eAndM, eOrM, eNotM, eIfM, aNil, aCons, eTup, eLst, mkLst, mkTup, eCB, eF, eSl, oPart, oNone, eUn, isB, truD, isiF, tyOf, subT, leD, ltD, gtD, geD, cmpD, lenF, lenN, neD, eqD, eqB, ofOpt, MM.keep, Res.bind, Res.toS, ixD, addD, subD, modD, fdivD, intF, List.replicate, setD, negD, mulD, sizeLine, MI.n] using q5, q6⟩
theorem state {i : Nat} {bs : List Int} (hb : bs.length ≤ 64) (h2 : ∀ b ∈ bs, 1 ≤ b ∧ b ≤ 64) (h : MH) (f : Fd i h h) : ∃ (ds : List Int) (h' : MH), m__law_state [.ref i, .tup (bs.map .int)] h = .ok (.tup (ds.map .int)) h' ∧ Fd i h h' ∧ ds.length = bs.length ∧ (∀ k (h1 : k < ds.length) (h2 : k < bs.length), 0 ≤ ds[k] ∧ ds[k] < bs[k]) := by
  obtain ⟨ds, h1, e1, f1, n1, g1, l1, s1⟩ := digits hb h2 (env := [some (.ref i), some (.tup (bs.map .int)), none]) (s := 2) rfl (by decide) (by simp [runD, sSeq, sRet, sIf, sSet, sEx, sSub, sNil, eVar, eC, eOp, eChain, tTruth, tBl, tNotM, tAndM, tOrM, eAndM, eOrM, eNotM, eIfM, aNil, aCons, eTup, eLst, mkLst, mkTup, eCB, eF, eSl, oPart, oNone, eUn, isB, truD, isiF, tyOf, subT, leD, ltD, gtD, geD, cmpD, lenF, lenN, neD, eqD, eqB, ofOpt, MM.keep, Res.bind, Res.toS, ixD, addD, subD, modD, fdivD, intF, List.replicate, setD, negD, mulD, sizeLine]) h rfl f
  have sq := MH.seq_lst g1
  refine ⟨ds, h1, ?_, f1, l1, s1⟩
  unfold m__law_state b__law_state
  simp [runD, sSeq, sRet, sIf, sSet, sEx, sSub, sNil, eVar, eC, eOp, eChain, tTruth, tBl, tNotM, tAndM, tOrM, eAndM, eOrM, eNotM, eIfM, aNil, aCons, eTup, eLst, mkLst, mkTup, eCB, eF, eSl, oPart, oNone, eUn, isB, truD, isiF, tyOf, subT, leD, ltD, gtD, geD, cmpD, lenF, lenN, neD, eqD, eqB, ofOpt, MM.keep, Res.bind, Res.toS, ixD, addD, subD, modD, fdivD, intF, List.replicate, setD, negD, mulD, sizeLine, eLc, iSeq, wipeE, e1, tupleF, sq]
end MF

set_option Elab.async false
set_option linter.all false
set_option maxRecDepth 100000
set_option maxHeartbeats 4000000
set_option autoImplicit false
/-! dicts whose keys are tuples -/
namespace MM
open PySem PySem.Spec PyProof.Rows L2

/-! ### keys -/
mutual
def keyEq : D → D → Bool
  | .non, .non => true
  | .int i, .int j => decide (i = j)
  | .tup xs, .tup ys => keyEqs xs ys
  | _, _ => false
def keyEqs : List D → List D → Bool
  | [], [] => true
  | x :: xs, y :: ys => keyEq x y && keyEqs xs ys
  | _, _ => false
end
mutual
theorem keyEq_iff : ∀ {a b : D} {k l : NestedKey}, nk a = some k → nk b = some l → keyEq a b = NestedKey.beq k l
  | .non, b, k, l, ha, hb => by
    cases ha
    cases b with
    | non => cases hb; rfl
    | int j => cases hb; rfl
    | tup ys => rw [nk, Option.map_eq_some_iff] at hb; obtain ⟨ls, _, rfl⟩ := hb; rfl
    | _ => cases hb
  | .int i, b, k, l, ha, hb => by
    cases ha
    cases b with
    | non => cases hb; rfl
    | int j => cases hb; rfl
    | tup ys => rw [nk, Option.map_eq_some_iff] at hb; obtain ⟨ls, _, rfl⟩ := hb; rfl
    | _ => cases hb
  | .tup xs, b, k, l, ha, hb => by
    rw [nk, Option.map_eq_some_iff] at ha
    obtain ⟨ks, h1, rfl⟩ := ha
    cases b with
    | non => cases hb; rfl
    | int j => cases hb; rfl
    | tup ys =>
      rw [nk, Option.map_eq_some_iff] at hb
      obtain ⟨ls, h2, rfl⟩ := hb
      exact keyEqs_iff h1 h2
    | _ => cases hb
  | .bl _, _, _, _, ha, _ => nomatch ha
  | .str _, _, _, _, ha, _ => nomatch ha
  | .ref _, _, _, _, ha, _ => nomatch ha
  | .ty _, _, _, _, ha, _ => nomatch ha
  | .stat _, _, _, _, ha, _ => nomatch ha
  | .rep _, _, _, _, ha, _ => nomatch ha
theorem keyEqs_iff : ∀ {a b : List D} {k l : List NestedKey}, nks a = some k → nks b = some l → keyEqs a b = NestedKey.beqAll k l
  | [], b, k, l, ha, hb => by
    cases ha
    cases b with
    | nil => cases hb; rfl
    | cons y ys =>
      rw [nks] at hb
      cases e1 : nk y with
      | none => rw [e1] at hb; cases hb
      | some z => rw [e1] at hb; simp only [Option.map_eq_some_iff] at hb; obtain ⟨ls, _, rfl⟩ := hb; rfl
  | x :: xs, b, k, l, ha, hb => by
    rw [nks] at ha
    cases e0 : nk x with
    | none => rw [e0] at ha; cases ha
    | some z0 =>
      rw [e0] at ha
      simp only [Option.map_eq_some_iff] at ha
      obtain ⟨ks, h1, rfl⟩ := ha
      cases b with
      | nil => cases hb; rfl
      | cons y ys =>
        rw [nks] at hb
        cases e1 : nk y with
        | none => rw [e1] at hb; cases hb
        | some z =>
          rw [e1] at hb
          simp only [Option.map_eq_some_iff] at hb
          obtain ⟨ls, h2, rfl⟩ := hb
          rw [keyEqs, NestedKey.beqAll, keyEq_iff e0 e1, keyEqs_iff h1 h2]
end
theorem keyEq_dec {a b : D} {k l : NestedKey} (h1 : nk a = some k) (h2 : nk b = some l) : keyEq a b = decide (k = l) := by rw [keyEq_iff h1 h2, NestedKey.decide_eq]
def isTupD : D → Bool
  | .tup _ => true
  | _ => false
/-- may be a key: a tuple of ints, None and such tuples -/
def keyOk (d : D) : Bool := isTupD d && match nk d with
  | some k => Nat.ble k.depth 8
  | none => false
theorem keyOk_some {d : D} (h : keyOk d = true) : ∃ k, nk d = some k ∧ k.depth ≤ 8 ∧ isTupD d = true := by
  unfold keyOk at h
  rw [Bool.and_eq_true] at h
  cases e : nk d with
  | none => rw [e] at h; exact absurd h.2 (by simp)
  | some k => rw [e] at h; exact ⟨k, rfl, Nat.le_of_ble_eq_true h.2, h.1⟩
section
variable {X : Cx} {G : Nat → Option Addr} {pins : List (Addr × Obj)} {σ : L2.St} {H : Hp} {s : Shared} {ρ : List Addr}
mutual
theorem nis (I : Inv X pins σ H s) : ∀ {d : D} {v : V} {u : Value} {k : NestedKey}, RD X.K G ρ H d v → RelV v u → nk d = some k → NestedIs s.heap k u
  | .non, _, _, _, r, ru, e => by cases r; cases ru; cases e; exact .none
  | .int i, _, _, _, r, ru, e => by cases r; obtain ⟨t, rfl⟩ := ru; cases e; exact .int _ _
  | .tup xs, _, _, _, r, ru, e => by
    cases r with
    | tup sq rs =>
      obtain rfl := (show _ = Value.ref _ from ru)
      rw [nk, Option.map_eq_some_iff] at e
      obtain ⟨ks, e1, rfl⟩ := e
      obtain ⟨its, rv, ⟨o, h1, h2, n, h3⟩, _⟩ := I.tuple sq
      exact .tup h1 h2 h3 (by simpa using niss I rs rv e1)
  | .bl _, _, _, _, _, _, e => nomatch e
  | .str _, _, _, _, _, _, e => nomatch e
  | .ref _, _, _, _, _, _, e => nomatch e
  | .ty _, _, _, _, _, _, e => nomatch e
  | .stat _, _, _, _, _, _, e => nomatch e
  | .rep _, _, _, _, _, _, e => nomatch e
theorem niss (I : Inv X pins σ H s) : ∀ {d : List D} {v : List V} {u : List Value} {k : List NestedKey}, RDs X.K G ρ H d v → Vals v u → nks d = some k → NestedAll s.heap k u
  | [], _, _, _, r, ru, e => by cases r; cases ru; cases e; exact .nil
  | x :: xs, _, _, _, r, ru, e => by
    cases r with
    | cons r1 r2 =>
      cases ru with
      | cons u1 u2 =>
        rw [nks] at e
        cases e0 : nk x with
        | none => rw [e0] at e; cases e
        | some z0 =>
          rw [e0] at e
          simp only [Option.map_eq_some_iff] at e
          obtain ⟨ks, h1, rfl⟩ := e
          exact .cons (nis I r1 u1 e0) (niss I r2 u2 h1)
end
/-- a tuple value's address, and that it is the key -/
theorem key_at (I : Inv X pins σ H s) {d : D} {v : V} {u : Value} (r : RD X.K G ρ H d v) (ru : RelV v u) (h : keyOk d = true) : ∃ b k, v = .ref b ∧ u = .ref b ∧ nk d = some k ∧ (nestedKind X.prog X.w).is s.heap k b := by
  obtain ⟨k, e1, e2, e3⟩ := keyOk_some h
  have z := nis I r ru e1
  cases r with
  | tup sq rs =>
    cases ru
    exact ⟨_, k, rfl, rfl, e1, z, e2⟩
  | _ => cases e3
end

/-! ### the dict in the heap -/
def yz (x : NestedKey × Addr × V) (w : Value) : NestedKey × Addr × Value := (x.1, x.2.1, w)
theorem zip_ent (P : Program) (w : World) : ∀ {vs : List (NestedKey × Addr × V)} {ws : List Value}, (∀ x ∈ vs, nfree x.1 = true) → List.zipWith entN vs ws = (List.zipWith yz vs ws).map (entryOfKey (nestedKind P w))
  | [], _, _ => by simp
  | _ :: _, [], _ => by simp
  | x :: vs, w' :: ws, h => by
    rw [List.zipWith_cons_cons, List.zipWith_cons_cons, List.map_cons, zip_ent P w fun y hy => h y (List.mem_cons_of_mem _ hy)]
    congr 1
    show (⟨hz x.1, .ref x.2.1, w'⟩ : DictEntry) = ⟨x.1.hash w, .ref x.2.1, w'⟩
    rw [hz_eq w x.1 (h x List.mem_cons_self)]
theorem zip_keys : ∀ {vs : List (NestedKey × Addr × V)} {ws : List Value}, ws.length = vs.length → (List.zipWith yz vs ws).map (·.1) = vs.map (·.1)
  | [], [], _ => rfl
  | x :: vs, w :: ws, h => by rw [List.zipWith_cons_cons, List.map_cons, List.map_cons, zip_keys (by simpa using h)]; rfl
theorem zip_mem : ∀ {vs : List (NestedKey × Addr × V)} {ws : List Value} {x : NestedKey × Addr × Value}, x ∈ List.zipWith yz vs ws → ∃ y w, y ∈ vs ∧ x = yz y w
  | [], _, x, h => by simp at h
  | _ :: _, [], x, h => by simp at h
  | z :: vs, w :: ws, x, h => by
    rw [List.zipWith_cons_cons] at h
    rcases List.mem_cons.mp h with rfl | h
    · exact ⟨z, w, List.mem_cons_self, rfl⟩
    · obtain ⟨y, w2, h1, h2⟩ := zip_mem h
      exact ⟨y, w2, List.mem_cons_of_mem _ h1, h2⟩
theorem zip_at (k : NestedKey) : ∀ {vs : List (NestedKey × Addr × V)} {ws : List Value}, Vals (vs.map (·.2.2)) ws → ∀ {x}, vs.find? (fun x => decide (x.1 = k)) = some x → ∃ u, atKey (List.zipWith yz vs ws) k = some (x.2.1, u) ∧ RelV x.2.2 u
  | [], _, _, x, e => by simp at e
  | y :: vs, _, .cons r t, x, e => by
    rename_i w ws
    by_cases h : y.1 = k
    · simp [h] at e
      subst e
      exact ⟨w, by simp [atKey, yz, h], r⟩
    · simp [h] at e
      obtain ⟨u, e1, e2⟩ := zip_at k t (by simpa using e)
      exact ⟨u, by simpa [atKey, yz, h] using e1, e2⟩
theorem zip_none (k : NestedKey) : ∀ {vs : List (NestedKey × Addr × V)} {ws : List Value}, Vals (vs.map (·.2.2)) ws → vs.find? (fun x => decide (x.1 = k)) = none → atKey (List.zipWith yz vs ws) k = none
  | [], _, _, e => by simp [atKey]
  | y :: vs, _, .cons r t, e => by
    rename_i w ws
    by_cases h : y.1 = k
    · simp [h] at e
    · simp [h] at e
      have e1 := zip_none k t (by simpa using e)
      simpa [atKey, yz, h] using e1
section
variable {X : Cx} {G : Nat → Option Addr} {pins : List (Addr × Obj)} {σ : L2.St} {H : Hp} {s : Shared} {ρ : List Addr}
theorem RKs.mem {K : PySem.W.Frag} : ∀ {ks : List (D × D)} {vs : List (NestedKey × Addr × V)}, RKs K G ρ H ks vs → ∀ x ∈ vs, ∃ d, nk d = some x.1 ∧ RD K G ρ H d (.ref x.2.1)
  | _, _, .nil, x, h => nomatch h
  | _, _, .cons e a b c, x, h => by
    rcases List.mem_cons.mp h with rfl | h
    · exact ⟨_, e, a⟩
    · exact RKs.mem c x h
theorem dt_heap {a : Addr} {ks : List (D × D)} {vs : List (NestedKey × Addr × V)} (I : Inv X pins σ H s) (ob : ObjOk X.prog X.w H s.heap a (dtO a vs)) (ok : DtOk a vs) (rk : RKs X.K G ρ H ks vs) :
    ∃ ws, Vals (vs.map (·.2.2)) ws ∧ ws.length = vs.length ∧ s.heap.DictOfH (nestedKind X.prog X.w) a (List.zipWith yz vs ws) := by
  obtain ⟨⟨o, es, ep, ws, h1, h2, h3, h4, h5⟩, _, _⟩ := ob
  have hl : ws.length = vs.length := by rw [← h4.length, List.length_map]
  have fr : ∀ x ∈ vs, nfree x.1 = true := fun x hx => let ⟨d, e, _⟩ := rk.mem x hx; nk_free e
  refine ⟨ws, h4, hl, o, es, ep, h1, h2, h3, by rw [h5, zip_ent X.prog X.w fr], fun x hx => ?_, by rw [zip_keys hl]; exact ok.nd⟩
  obtain ⟨y, w', hy, rfl⟩ := zip_mem hx
  obtain ⟨d, e, r⟩ := rk.mem y hy
  exact ⟨nis I r rfl e, ok.dep y hy⟩
end
/-- what may be read as a dict with tuple keys -/
def MH.dt (h : MH) (i : Nat) : Option (List (D × D)) := match h.get i with
  | some (.dt ks) => some ks
  | some (.rdt ks) => some ks
  | some (.dct []) => some []
  | some (.rct []) => some []
  | _ => none
section
variable {X : Cx} {G : Nat → Option Addr} {pins : List (Addr × Obj)} {σ : L2.St} {H : Hp} {s : Shared} {ρ : List Addr}
theorem dk_nil {a : Addr} (I : Inv X pins σ H s) (e : Rd H a (.dK [])) : DtOk a [] ∧ s.heap.DictOfH (nestedKind X.prog X.w) a [] := by
  obtain ⟨z, hd, vs, rel, o, es, ep, h1, h2, h3, h4, h5, h6⟩ := dk_rd I.hok e
  cases rel
  have he : es.toList = [] := by cases q : es.toList with
    | nil => rfl
    | cons x xs => rw [q] at h5; cases h5
  exact ⟨⟨List.nodup_nil, Nat.zero_le _, hd, (fun x hx => nomatch hx)⟩, o, es, ep, h1, h2, h3, (by rw [he]; rfl), (fun x hx => nomatch hx), List.nodup_nil⟩
theorem Rel.dtH {i : Nat} {ks : List (D × D)} {h : MH} (I : Inv X pins σ H s) (r : Rel X.K G ρ h H) (e : h.dt i = some ks) : ∃ a vs ws, ρ[i]? = some a ∧ DtOk a vs ∧ RKs X.K G ρ H ks vs ∧ Vals (vs.map (·.2.2)) ws ∧ ws.length = vs.length ∧ s.heap.DictOfH (nestedKind X.prog X.w) a (List.zipWith yz vs ws) := by
  unfold MH.dt at e
  split at e
  · rename_i q; cases e
    obtain ⟨a, e1, vs, e2, e3, e4⟩ := r.ob i _ q
    obtain ⟨ws, h4, hl, hm⟩ := dt_heap I (Rd.ok (.inl e2) I.hok) e3 e4
    exact ⟨a, vs, ws, e1, e3, e4, h4, hl, hm⟩
  · rename_i q; cases e
    obtain ⟨a, e1, o, vs, e2, e3, e4⟩ := r.ob i _ q
    obtain ⟨ws, h4, hl, hm⟩ := dt_heap I (Rd.ok (.inr ⟨o, e2⟩) I.hok) e3 e4
    exact ⟨a, vs, ws, e1, e3, e4, h4, hl, hm⟩
  · rename_i q; cases e
    obtain ⟨a, e1, vs, e2, e3⟩ := r.ob i _ q
    cases e3
    obtain ⟨z1, z2⟩ := dk_nil I (.inl e2)
    exact ⟨a, [], [], e1, z1, .nil, .nil, rfl, z2⟩
  · rename_i q; cases e
    obtain ⟨a, e1, o, vs, e2, e3⟩ := r.ob i _ q
    cases e3
    obtain ⟨z1, z2⟩ := dk_nil I (.inr ⟨o, e2⟩)
    exact ⟨a, [], [], e1, z1, .nil, .nil, rfl, z2⟩
  · cases e
end
/-! ### look-ups -/
def valT (ks : List (D × D)) (k : D) : Option D := match ks with
  | [] => none
  | (a, v) :: r => bif keyEq a k then some v else valT r k
theorem valT_ok {K : PySem.W.Frag} {G : Nat → Option Addr} {ρ : List Addr} {H : Hp} {d : D} {k : NestedKey} (hk : nk d = some k) : ∀ {ks : List (D × D)} {vs : List (NestedKey × Addr × V)}, RKs K G ρ H ks vs →
    (∀ v, valT ks d = some v → ∃ x, vs.find? (fun x => decide (x.1 = k)) = some x ∧ RD K G ρ H v x.2.2) ∧ (valT ks d = none → vs.find? (fun x => decide (x.1 = k)) = none)
  | _, _, .nil => ⟨(fun v e => nomatch e), fun _ => rfl⟩
  | _, _, .cons (d := a) (k := ka) (b := b) (v := vv) e ra rv c => by
    have ih := valT_ok hk c
    unfold valT
    rw [keyEq_dec e hk]
    by_cases q : ka = k
    · rw [decide_eq_true q]
      exact ⟨fun v z => by cases z; exact ⟨(ka, b, vv), by simp [q], rv⟩, fun z => nomatch z⟩
    · rw [decide_eq_false q]
      refine ⟨fun v z => ?_, fun z => ?_⟩
      · obtain ⟨x, h1, h2⟩ := ih.1 v z
        exact ⟨x, by simp [q]; simpa using h1, h2⟩
      · simp [q]; simpa using ih.2 z
def dtGet (a b : D) (h : MH) : Option (D × MH) := match a with
  | .ref i => match h.dt i with
    | some ks => bif keyOk b then keep h (valT ks b) else none
    | none => none
  | _ => none
def dtHas (a b : D) (h : MH) : Option Bool := match b with
  | .ref i => match h.dt i with
    | some ks => bif keyOk a then some (valT ks a).isSome else none
    | none => none
  | _ => none
section
variable {X : Cx} {G : Nat → Option Addr} {pins : List (Addr × Obj)} {σ : L2.St} {H : Hp} {s : Shared} {ρ : List Addr} {A : Around} {E : Value → Shared → Prop}
theorem hroom {k : Nat} {A : Around} (r : Room k A) : A.in1.units + 8 < cLine := by have := r.un; show A.units + 1 + 8 < _; omega
/-- d[y], there -/
theorem dtGet_run {x y d : D} {v w : V} {u u' : Value} {h h' : MH} {Q : Value → Shared → Prop} (hu : A.in1.units + 8 < cLine) (I : Inv X pins σ H s) (R : Rel X.K G ρ h H) (rx : RD X.K G ρ H x v) (ry : RD X.K G ρ H y w) (ru : RelV v u) (ru' : RelV w u')
    (e : dtGet x y h = some (d, h')) (k : ∀ z r s', h' = h → Inv X pins σ H s' → RD X.K G ρ H d z → RelV z r → Q r s') : ∃ a, u = .ref a ∧ s.TypeIs (.ref a) "dict" ∧ wpAny (model X.prog X.w) A (getItem (.ref a) u') Q E s := by
  unfold dtGet at e
  split at e
  · rename_i i
    split at e
    · rename_i ks g
      cases ek : keyOk y with
      | false => rw [ek] at e; cases e
      | true =>
        rw [ek, cond_true] at e
        obtain ⟨e1, rfl⟩ := keep_eq e
        obtain ⟨a, vs, ws, p1, p3, p4, h4, hl, hm⟩ := R.dtH I g
        cases rx with
        | ref ha =>
          rw [ha] at p1; cases p1
          cases ru
          obtain ⟨b, kk, rfl, rfl, q1, q2⟩ := key_at I ry ru' ek
          obtain ⟨x', f1, f2⟩ := (valT_ok q1 p4).1 _ e1
          obtain ⟨u2, f3, f4⟩ := zip_at kk h4 f1
          exact ⟨_, rfl, hm.typeIs, wpAny_getItem_heap hu q2 hm f3 (k _ _ _ rfl (I.tok _) f2 f4)⟩
    · cases e
  · cases e
theorem dtHas_run {x y : D} {v w : V} {u u' : Value} {h : MH} {c : Bool} (I : Inv X pins σ H s) (R : Rel X.K G ρ h H) (rx : RD X.K G ρ H x v) (ry : RD X.K G ρ H y w) (ru : RelV v u) (ru' : RelV w u')
    (e : dtHas x y h = some c) : ∃ a b k ys, u' = .ref a ∧ u = .ref b ∧ (nestedKind X.prog X.w).is s.heap k b ∧ (a == sysModules) = false ∧ s.heap.DictOfH (nestedKind X.prog X.w) a ys ∧ (atKey ys k).isSome = c := by
  unfold dtHas at e
  split at e
  · rename_i i
    split at e
    · rename_i ks g
      cases ek : keyOk x with
      | false => rw [ek] at e; cases e
      | true =>
        rw [ek, cond_true] at e
        obtain ⟨a, vs, ws, p1, p3, p4, h4, hl, hm⟩ := R.dtH I g
        cases ry with
        | ref ha =>
          rw [ha] at p1; cases p1
          cases ru'
          obtain ⟨b, kk, rfl, rfl, q1, q2⟩ := key_at I rx ru ek
          refine ⟨a, b, kk, _, rfl, rfl, q2, p3.low, hm, ?_⟩
          cases ev : valT ks x with
          | none => rw [ev] at e; cases e; rw [zip_none kk h4 ((valT_ok q1 p4).2 ev)]; rfl
          | some z =>
            rw [ev] at e; cases e
            obtain ⟨x', f1, f2⟩ := (valT_ok q1 p4).1 _ ev
            obtain ⟨u2, f3, f4⟩ := zip_at kk h4 f1
            rw [f3]; rfl
    · cases e
  · cases e
end
/-! ### d[k], x in d of any kind -/
def dctHas (a b : D) (h : MH) : Option Bool := match b with
  | .ref i => match h.get i with
    | some (.dct kvs) => (dkey a).map fun k => (valD kvs k).isSome
    | some (.rct kvs) => (dkey a).map fun k => (valD kvs k).isSome
    | _ => none
  | _ => none
def dgetR (a b : D) (h : MH) : Option (D × MH) := match a with
  | .ref i => match h.get i with
    | some (.dct kvs) => match dkey b with
      | some k => keep h (valD kvs k)
      | none => none
    | some (.rct kvs) => match dkey b with
      | some k => keep h (valD kvs k)
      | none => none
    | _ => none
  | _ => none
def ixA (a b : D) (h : MH) : Option (D × MH) := match ixD a b h with
  | some r => some r
  | none => match dgetR a b h with
    | some r => some r
    | none => dtGet a b h
def inA (a b : D) (h : MH) : Option (D × MH) := match dctHas a b h with
  | some c => some (.bl c, h)
  | none => match dtHas a b h with
    | some c => some (.bl c, h)
    | none => inD a b h
def notInA (a b : D) (h : MH) : Option (D × MH) := match dctHas a b h with
  | some c => some (.bl (!c), h)
  | none => match dtHas a b h with
    | some c => some (.bl (!c), h)
    | none => notInD a b h
/-- what may be read as a dict with plain keys -/
theorem Rel.dct {K : PySem.W.Frag} {G : Nat → Option Addr} {ρ : List Addr} {H : Hp} {h : MH} {i : Nat} {ks : List (L2.Key × D)} (r : Rel K G ρ h H) (e : h.get i = some (.dct ks) ∨ h.get i = some (.rct ks)) : ∃ a vs, ρ[i]? = some a ∧ Rd H a (.dK vs) ∧ RFs K G ρ H ks vs := by
  rcases e with e | e
  · obtain ⟨a, e1, vs, e2, e3⟩ := r.ob i _ e
    exact ⟨a, vs, e1, .inl e2, e3⟩
  · obtain ⟨a, e1, o, vs, e2, e3⟩ := r.ob i _ e
    exact ⟨a, vs, e1, .inr ⟨o, e2⟩, e3⟩
theorem dgetR_v {K : PySem.W.Frag} {G : Nat → Option Addr} {ρ : List Addr} {H : Hp} {h : MH} {x y d : D} {v : V} {u : V} {h' : MH} (R : Rel K G ρ h H) (rx : RD K G ρ H x v) (ry : RD K G ρ H y u) (e : dgetR x y h = some (d, h')) : h' = h ∧ ∃ a w, v = .ref a ∧ DGet H a u (some w) ∧ RD K G ρ H d w := by
  have main : ∀ {i kvs}, x = .ref i → (h.get i = some (.dct kvs) ∨ h.get i = some (.rct kvs)) → (match dkey y with
      | some k => keep h (valD kvs k)
      | none => none) = some (d, h') → h' = h ∧ ∃ a w, v = .ref a ∧ DGet H a u (some w) ∧ RD K G ρ H d w := by
    intro i kvs ex g em
    cases ex
    split at em
    · rename_i k ek
      obtain ⟨e1, rfl⟩ := keep_eq em
      obtain ⟨a, vs, ea, g2, z⟩ := R.dct g
      cases rx with
      | ref ha =>
        rw [ha] at ea; cases ea
        obtain ⟨w, e2, rw'⟩ := (z.val k).1 _ e1
        have := dkey_v ry ek
        subst this
        exact ⟨rfl, _, w, rfl, .inl ⟨vs, k, g2, rfl, e2.symm⟩, rw'⟩
    · cases em
  unfold dgetR at e
  split at e
  · split at e
    · rename_i g; exact main rfl (.inl g) e
    · rename_i g; exact main rfl (.inr g) e
    · cases e
  · cases e
theorem dctHas_v {K : PySem.W.Frag} {G : Nat → Option Addr} {ρ : List Addr} {H : Hp} {h : MH} {x y : D} {v : V} {u : V} {c : Bool} (R : Rel K G ρ h H) (rx : RD K G ρ H x v) (ry : RD K G ρ H y u) (e : dctHas x y h = some c) : ∃ a o, u = .ref a ∧ DGet H a v o ∧ o.isSome = c := by
  have main : ∀ {i kvs}, y = .ref i → (h.get i = some (.dct kvs) ∨ h.get i = some (.rct kvs)) → ((dkey x).map fun k => (valD kvs k).isSome) = some c → ∃ a o, u = .ref a ∧ DGet H a v o ∧ o.isSome = c := by
    intro i kvs ex g em
    cases ex
    obtain ⟨k, ek, e1⟩ := Option.map_eq_some_iff.mp em
    obtain ⟨a, vs, ea, g2, z⟩ := R.dct g
    cases ry with
    | ref ha =>
      rw [ha] at ea; cases ea
      have := dkey_v rx ek
      subst this
      refine ⟨_, valV vs k, rfl, .inl ⟨vs, k, g2, rfl, rfl⟩, ?_⟩
      cases ev : valD kvs k with
      | none => rw [ev] at e1; rw [(z.val k).2 ev]; exact e1
      | some q => obtain ⟨w, e2, _⟩ := (z.val k).1 _ ev; rw [ev] at e1; rw [e2]; exact e1
  unfold dctHas at e
  split at e
  · split at e
    · rename_i g; exact main rfl (.inl g) e
    · rename_i g; exact main rfl (.inr g) e
    · cases e
  · cases e
section
variable {X : Cx} {G : Nat → Option Addr} {W : WX} {a b : Expr} {pos : Pos} {k : Nat}
theorem ixA_ok (hr : Room k X.A) : IxR X (rOp X.K G ixA) := by
  intro value slice pins s σ H x y v u Q I rx ry q hs
  obtain ⟨ρ, h, a, b, w, h', R, ra, rb, e, kk⟩ := q
  unfold ixA at e
  split at e
  · rename_i r er
    cases e
    exact ix_ok value slice pins s σ H x y v u Q I rx ry ⟨ρ, h, a, b, w, h', R, ra, rb, er, kk⟩ hs
  · split at e
    · rename_i r er
      cases e
      obtain ⟨rfl, p, z, rfl, g, rz⟩ := dgetR_v R ra rb er
      obtain rfl : v = Value.ref p := rx
      refine tail_any (dict_typeIs I g) PySem.F.slot_dict_getitem.lookup (d_getItem (hu1 hr) I g ry fun w' s3 I3 rw' => ⟨z, H, I3, rw', kk ρ H z .refl R rz⟩) hs
    · obtain ⟨p, rfl, ht, hw⟩ := dtGet_run (Q := EP X pins σ Q) (E := X.xe) (hroom hr) I R ra rb rx ry e fun z r s' hh I' rz rr => ⟨z, H, I', rr, by subst hh; exact kk ρ H z .refl R rz⟩
      exact tail_any ht PySem.F.slot_dict_getitem.lookup hw hs
theorem me_ixA {ma mb : Mx} (hr : Room k X.A) (ha : PE X a (RdE X.K G W ma)) (hb : PE X b (RdE X.K G W mb)) (hs : PlainIx b := by exact fun _ _ => rfl) : PE X (.Subscript a b pos) (RdE X.K G W (eOp ixA ma mb)) :=
  PE.imp (pe_ix (ixA_ok hr) ha hb hs) fun _ _ _ q => two_op q
theorem ok_inA (hr : Room k X.A) : OpOK X G (compareOp .In) inA := by
  intro pins s σ H x y v u Q I rx ry q
  obtain ⟨ρ, h, a, b, w, h', R, ra, rb, e, kk⟩ := q
  unfold inA at e
  split at e
  · rename_i c ec
    cases e
    obtain ⟨p, o, rfl, g, rfl⟩ := dctHas_v R ra rb ec
    obtain rfl : u = Value.ref p := ry
    exact d_in (hu1 hr) I g rx fun s3 I3 => ⟨.bl _, H, I3, rfl, kk ρ H _ .refl R (.bl _)⟩
  · split at e
    · rename_i c ec
      cases e
      obtain ⟨p, b', k', ys, rfl, rfl, q1, q2, q3, q4⟩ := dtHas_run I R ra rb rx ry ec
      exact wpAny_in_heap (hroom hr) q1 q2 q3 (by rw [q4]; exact ⟨.bl _, H, I.tok _, rfl, kk ρ H _ .refl R (.bl c)⟩)
    · exact ok_in (hu65 hr) pins s σ H x y v u Q I rx ry ⟨ρ, h, a, b, w, h', R, ra, rb, e, kk⟩
theorem ok_notInA (hr : Room k X.A) : OpOK X G (compareOp .NotIn) notInA := by
  intro pins s σ H x y v u Q I rx ry q
  obtain ⟨ρ, h, a, b, w, h', R, ra, rb, e, kk⟩ := q
  unfold notInA at e
  split at e
  · rename_i c ec
    cases e
    obtain ⟨p, o, rfl, g, rfl⟩ := dctHas_v R ra rb ec
    obtain rfl : u = Value.ref p := ry
    exact d_notIn (hu1 hr) I g rx fun s3 I3 => ⟨.bl _, H, I3, rfl, kk ρ H _ .refl R (.bl _)⟩
  · split at e
    · rename_i c ec
      cases e
      obtain ⟨p, b', k', ys, rfl, rfl, q1, q2, q3, q4⟩ := dtHas_run I R ra rb rx ry ec
      exact wpAny_notIn_heap (hroom hr) q1 q2 q3 (by rw [q4]; exact ⟨.bl _, H, I.tok _, rfl, kk ρ H _ .refl R (.bl (!c))⟩)
    · exact ok_notIn (hu65 hr) pins s σ H x y v u Q I rx ry ⟨ρ, h, a, b, w, h', R, ra, rb, e, kk⟩
end
end MM

set_option Elab.async false
set_option linter.all false
set_option maxRecDepth 100000
set_option maxHeartbeats 4000000
set_option autoImplicit false
/-! dicts: stores, augmented subscripts, {}, len -/
namespace MM
open PySem PySem.Spec PyProof.Rows L2

/-! ### tables with tuple keys -/
def putT (ks : List (D × D)) (k v : D) : List (D × D) := match ks with
  | [] => [(k, v)]
  | (a, b) :: r => bif keyEq a k then (a, v) :: r else (a, b) :: putT r k v
def putN (vs : List (NestedKey × Addr × V)) (k : NestedKey) (b : Addr) (v : V) : List (NestedKey × Addr × V) := match vs with
  | [] => [(k, b, v)]
  | x :: r => if x.1 = k then (x.1, x.2.1, v) :: r else x :: putN r k b v
section
variable {K : PySem.W.Frag} {G : Nat → Option Addr} {ρ : List Addr} {H : Hp}
theorem RKs.put {d e : D} {k : NestedKey} {b : Addr} {v : V} (hk : nk d = some k) (rd : RD K G ρ H d (.ref b)) (re : RD K G ρ H e v) : ∀ {ks : List (D × D)} {vs : List (NestedKey × Addr × V)}, RKs K G ρ H ks vs → RKs K G ρ H (putT ks d e) (putN vs k b v)
  | _, _, .nil => .cons hk rd re .nil
  | _, _, .cons (k := ka) q ra rv c => by
    unfold putT putN
    rw [keyEq_dec q hk]
    by_cases h : ka = k
    · rw [decide_eq_true h, cond_true, if_pos h]; exact .cons q ra re c
    · rw [decide_eq_false h, cond_false, if_neg h]; exact .cons q ra rv (RKs.put hk rd re c)
theorem RKs.len : ∀ {ks : List (D × D)} {vs : List (NestedKey × Addr × V)}, RKs K G ρ H ks vs → ks.length = vs.length
  | _, _, .nil => rfl
  | _, _, .cons _ _ _ c => by simp [RKs.len c]
theorem putN_mem {k : NestedKey} {b : Addr} {v : V} : ∀ {vs : List (NestedKey × Addr × V)} {x : NestedKey × Addr × V}, x ∈ putN vs k b v → x.1 = k ∨ ∃ y ∈ vs, x.1 = y.1
  | [], x, h => by simp [putN] at h; subst h; exact .inl rfl
  | y :: vs, x, h => by
    unfold putN at h
    by_cases e : y.1 = k
    · rw [if_pos e] at h
      rcases List.mem_cons.mp h with rfl | h
      · exact .inl e
      · exact .inr ⟨x, List.mem_cons_of_mem _ h, rfl⟩
    · rw [if_neg e] at h
      rcases List.mem_cons.mp h with rfl | h
      · exact .inr ⟨_, List.mem_cons_self, rfl⟩
      · rcases putN_mem h with q | ⟨z, q1, q2⟩
        · exact .inl q
        · exact .inr ⟨z, List.mem_cons_of_mem _ q1, q2⟩
theorem putN_len {k : NestedKey} {b : Addr} {v : V} : ∀ {vs : List (NestedKey × Addr × V)}, (putN vs k b v).length ≤ vs.length + 1
  | [] => by simp [putN]
  | y :: vs => by
    unfold putN
    by_cases e : y.1 = k
    · rw [if_pos e]; simp
    · rw [if_neg e, List.length_cons, List.length_cons]; have := @putN_len k b v vs; omega
theorem putN_nodup {k : NestedKey} {b : Addr} {v : V} : ∀ {vs : List (NestedKey × Addr × V)}, (vs.map (·.1)).Nodup → ((putN vs k b v).map (·.1)).Nodup
  | [], _ => by simp [putN]
  | y :: vs, h => by
    rw [List.map_cons, List.nodup_cons] at h
    unfold putN
    by_cases e : y.1 = k
    · rw [if_pos e, List.map_cons, List.nodup_cons]; exact h
    · rw [if_neg e, List.map_cons, List.nodup_cons]
      refine ⟨fun q => ?_, putN_nodup h.2⟩
      obtain ⟨x, h1, h2⟩ := List.mem_map.mp q
      rcases putN_mem h1 with z | ⟨z, z1, z2⟩
      · exact e (h2.symm.trans z)
      · exact h.1 (List.mem_map.mpr ⟨z, z1, z2.symm.trans h2⟩)
theorem putN_ok {a b : Addr} {k : NestedKey} {v : V} {vs : List (NestedKey × Addr × V)} (h : DtOk a vs) (hl : vs.length + 1 ≤ sizeLine) (hd : k.depth ≤ 8) : DtOk a (putN vs k b v) :=
  ⟨putN_nodup h.nd, Nat.le_trans putN_len hl, h.low, fun x hx => by
    rcases putN_mem hx with q | ⟨y, q1, q2⟩
    · rw [q]; exact hd
    · rw [q2]; exact h.dep y q1⟩
theorem stored_cons {y : NestedKey × Addr × Value} {ys : List (NestedKey × Addr × Value)} {k : NestedKey} {b : Addr} {u : Value} (h : ¬ y.1 = k) : storedH (y :: ys) k b u = y :: storedH ys k b u := by
  have e : atKey (y :: ys) k = atKey ys k := by simp [atKey, h]
  unfold storedH
  rw [e]
  by_cases q : (atKey ys k).isSome = true
  · rw [if_pos q, if_pos q, List.map_cons]; unfold putAt; rw [if_neg h]
  · rw [if_neg q, if_neg q]; rfl
theorem map_putAt {k : NestedKey} {u : Value} : ∀ {ys : List (NestedKey × Addr × Value)}, (∀ y ∈ ys, y.1 ≠ k) → ys.map (PySem.putAt k u) = ys
  | [], _ => rfl
  | y :: ys, h => by
    rw [List.map_cons, map_putAt fun z hz => h z (List.mem_cons_of_mem _ hz)]
    unfold PySem.putAt
    rw [if_neg (h y List.mem_cons_self)]
theorem zip_put {k : NestedKey} {b : Addr} {v : V} {u : Value} (ru : RelV v u) : ∀ {vs : List (NestedKey × Addr × V)} {ws : List Value}, (vs.map (·.1)).Nodup → Vals (vs.map (·.2.2)) ws →
    ∃ ws', Vals ((putN vs k b v).map (·.2.2)) ws' ∧ List.zipWith yz (putN vs k b v) ws' = storedH (List.zipWith yz vs ws) k b u
  | [], _, _, .nil => ⟨[u], .cons ru .nil, by simp [putN, storedH, atKey, yz]⟩
  | y :: vs, _, nd, .cons r t => by
    rename_i w ws
    rw [List.map_cons, List.nodup_cons] at nd
    unfold putN
    by_cases h : y.1 = k
    · rw [if_pos h]
      refine ⟨u :: ws, .cons ru t, ?_⟩
      have e : atKey (List.zipWith yz (y :: vs) (w :: ws)) k = some (y.2.1, w) := by simp [atKey, yz, h]
      rw [storedH_old e, List.zipWith_cons_cons, List.zipWith_cons_cons, List.map_cons, map_putAt]
      · congr 1
        show (y.1, y.2.1, u) = PySem.putAt k u (y.1, y.2.1, w)
        unfold PySem.putAt
        rw [if_pos h]
      · intro z hz e2
        obtain ⟨y', w', h1, rfl⟩ := zip_mem hz
        exact nd.1 (List.mem_map.mpr ⟨y', h1, e2.trans h.symm⟩)
    · rw [if_neg h]
      obtain ⟨ws', q1, q2⟩ := zip_put ru nd.2 t
      exact ⟨w :: ws', .cons r q1, by rw [List.zipWith_cons_cons, List.zipWith_cons_cons, stored_cons h, q2]⟩
end
theorem dt_obj {P : Program} {w : World} {H : Hp} {h : Heap} {a : Addr} {vs : List (NestedKey × Addr × V)} {ws : List Value} (hv : Vals (vs.map (·.2.2)) ws) (fr : ∀ x ∈ vs, nfree x.1 = true) (hm : h.DictOfH (nestedKind P w) a (List.zipWith yz vs ws)) : ObjOk P w H h a (dtO a vs) := by
  obtain ⟨o, es, ep, h1, h2, h3, h4, _⟩ := hm
  refine ⟨⟨o, es, ep, ws, h1, h2, h3, hv, by rw [h4, zip_ent P w fr]⟩, ⟨o, h1⟩, fun g1 g2 q k => ?_⟩
  obtain ⟨o, es, ep, ws, z1, z⟩ := q
  exact ⟨o, es, ep, ws, k o z1, z⟩

/-! ### o[i] = v -/
def MH.dtW (h : MH) (i : Nat) : Option (List (D × D)) := match h.get i with
  | some (.dt ks) => some ks
  | some (.dct []) => some []
  | _ => none
def setT (o i v : D) (h : MH) : Option MH := match o with
  | .ref j => match h.dtW j with
    | some ks => bif keyOk i && ltLen ks sizeLine then some (h.set j (.dt (putT ks i v))) else none
    | none => none
  | _ => none
def setK (o i v : D) (h : MH) : Option MH := match o with
  | .ref j => match h.get j with
    | some (.dct kvs) => match dkey i with
      | some k => bif ltLen kvs sizeLine then some (h.set j (.dct (putD kvs k v))) else none
      | none => none
    | _ => none
  | _ => none
def setA (o i v : D) (h : MH) : Option MH := match setD o i v h with
  | some h' => some h'
  | none => match setK o i v h with
    | some h' => some h'
    | none => setT o i v h
def rSet (K : PySem.W.Frag) (G : Nat → Option Addr) : TSet := fun o i v H Q => ∃ (ρ : List Addr) (h : MH) (a b c : D) (h' : MH), Rel K G ρ h H ∧ RD K G ρ H a o ∧ RD K G ρ H b i ∧ RD K G ρ H c v ∧ setA a b c h = some h' ∧ ∀ H', Fut K ρ H ρ H' → Rel K G ρ h' H' → Q H'
section
variable {X : Cx} {G : Nat → Option Addr} {W : WX} {e : Expr} {pos : Pos} {k : Nat}
theorem set_any (hr : Room k X.A) : PSet X (rSet X.K G) := by
  intro pins s σ H o i v ov iv u Q I ro ri rv q
  obtain ⟨ρ, h, a, b, c, h', R, ra, rb, rc, e, kk⟩ := q
  unfold setA at e
  split at e
  · rename_i h2 es
    cases e
    unfold setD at es
    split at es
    · split at es
      · rename_i xs g1
        split at es
        · rename_i n en
          cases es
          obtain ⟨a1, ys, p1, p2, p3⟩ := R.lst g1
          cases rb
          cases ra with
          | ref ha =>
            rw [ha] at p1; cases p1
            have fu : Fut X.K ρ H ρ (upd H a1 (.lst (ys.set n v))) := Fut.updS ha (by rw [p2]; exact .lst _)
            have rs : RDs X.K G ρ H (xs.set n c) (ys.set n v) := p3.set n rc
            exact set_list pins s σ H _ _ v ov iv u Q I ro ri rv ⟨_, ys, _, n, rfl, rfl, p2, by rw [← p3.length]; exact en, kk _ fu (R.set g1 rfl rfl ha (by rw [p2]; exact .lst _) ⟨_, upd_same, rs.fut fu⟩)⟩
        · cases es
      · cases es
    · cases es
  · split at e
    · rename_i h2 es
      cases e
      unfold setK at es
      split at es
      · split at es
        · rename_i j kvs g1
          split at es
          · rename_i key ek
            cases el : ltLen kvs sizeLine with
            | false => rw [el] at es; cases es
            | true =>
              rw [el] at es; cases es
              obtain ⟨a1, p1, vs, p2, p3⟩ := R.ob _ _ g1
              have := dkey_v rb ek
              subst this
              cases ra with
              | ref ha =>
                rw [ha] at p1; cases p1
                obtain rfl := (show ov = Value.ref _ from ro)
                have fu : Fut X.K ρ H ρ (upd H a1 (.dK (putK vs key v))) := Fut.updS ha (by rw [p2]; exact .dK _)
                have hl : vs.length < sizeLine := by rw [← p3.len]; exact ltLen_iff.mp el
                exact d_setItem (hu1 hr) I (DPut.k p2 hl) ri rv fun s' I' => ⟨_, I', kk _ fu (R.set g1 rfl rfl ha (by rw [p2]; exact .dK _) ⟨_, upd_same, (p3.put key rc).fut fu⟩)⟩
          · cases es
        · cases es
      · cases es
    · unfold setT at e
      split at e
      · rename_i j _ _
        split at e
        · rename_i ks g
          cases el : keyOk b && ltLen ks sizeLine with
          | false => rw [el] at e; cases e
          | true =>
            rw [el] at e; cases e
            rw [Bool.and_eq_true] at el
            have gd : h.dt j = some ks := by
              unfold MH.dtW at g
              unfold MH.dt
              split at g
              · rename_i q; cases g; rw [q]
              · rename_i q; cases g; rw [q]
              · cases g
            obtain ⟨a1, vs, ws, p1, p3, p4, h4, hl, hm⟩ := R.dtH I gd
            obtain ⟨a2, p1', mu, nt, isk⟩ : ∃ a2, ρ[j]? = some a2 ∧ Mut (H a2) ∧ NoTup (H a2) ∧ ∃ o', h.get j = some o' ∧ o'.isK = false := by
              unfold MH.dtW at g
              split at g
              · rename_i q
                obtain ⟨a2, e1, us, e2, _⟩ := R.ob _ _ q
                exact ⟨a2, e1, by rw [e2]; trivial, by rw [e2]; exact .dt _ _, _, q, rfl⟩
              · rename_i q
                obtain ⟨a2, e1, us, e2, _⟩ := R.ob _ _ q
                exact ⟨a2, e1, by rw [e2]; trivial, by rw [e2]; exact .dK _, _, q, rfl⟩
              · cases g
            rw [p1] at p1'; cases p1'
            obtain ⟨o', gj, ko⟩ := isk
            cases ra with
            | ref ha =>
              rw [ha] at p1; cases p1
              obtain rfl := (show ov = Value.ref _ from ro)
              obtain ⟨b', kk', rfl, rfl, q1, q2⟩ := key_at I rb ri el.1
              have hz : (List.zipWith yz vs ws).length ≤ sizeLine := by rw [List.length_zipWith, hl, Nat.min_self]; exact p3.len
              obtain ⟨kd, kd1, kd2, _⟩ := keyOk_some el.1
              rw [q1] at kd1; cases kd1
              refine wpAny_setItem_heap (hsz := hz) (hroom hr) q2 hm fun h2 dd hs => ?_
              obtain ⟨ws', z1, z2⟩ := zip_put (k := kk') (b := b') rv p3.nd h4
              have rk := p4.put q1 rb rc
              have fu : Fut X.K ρ H ρ (upd H a1 (dtO a1 (putN vs kk' b' v))) := Fut.updS ha nt
              have fr : ∀ x ∈ putN vs kk' b' v, nfree x.1 = true := fun x hx => let ⟨d, e, _⟩ := rk.mem x hx; nk_free e
              refine ⟨_, d_write I mu hs (let ⟨q, _, _, hq, _⟩ := dd; ⟨q, hq⟩) (dt_obj z1 fr (by rw [z2]; exact dd)), kk _ fu (R.set gj ko rfl ha nt ⟨_, upd_same, putN_ok p3 (by rw [← p4.len]; exact ltLen_iff.mp el.2) kd2, rk.fut fu⟩)⟩
        · cases e
      · cases e
def sSubA (mo mi m : Mx) : Ms := fun env h => (m env h).toS env fun v h1 => (mo env h1).toS env fun o h2 => (mi env h2).toS env fun i h3 => match setA o i v h3 with
  | some h4 => .nx env h4
  | none => .bad
theorem ms_subA {o i : Expr} {mo mi m : Mx} {p : Pos} (hr : Room k X.A) (he : PE X e (RdE X.K G W m)) (ho : PE X o (RdE X.K G W mo)) (hi : PE X i (RdE X.K G W mi))
    (ha : ∀ v, assign (.Subscript o i p) X.env v = (do
      let ov ← holding [v] (eval o X.env)
      let iv ← holding [v, ov] (eval i X.env)
      standAt p
      holding [v, ov, iv] (setItem ov iv v)
      release [v, ov, iv] []) := by intro _; rfl) (hs : swapsWithSole [.Subscript o i p] e pos.line X.env = pure false := by rfl) (hw : swappedStores [.Subscript o i p] e X.env = pure none := by rfl)
    (h1 : (assignEach [.Subscript o i p] X.env).map (·.2) = [assign (.Subscript o i p) X.env] := by rfl) : PS X (.Assign [.Subscript o i p] e pos) (RdS X.K G W (sSubA mo mi m)) := by
  refine PS.imp (ps_asg he (pg_sub ho hi (set_any (G := G) hr) ha) hs hw h1) fun D σ H q => ?_
  obtain ⟨ρ, h, env, r, re, w⟩ := q
  refine ⟨ρ, h, env, r, re, WpS.bind w re fun x h1 ρ1 H1 vx f1 r1 q1 re1 w1 => ?_⟩
  refine ⟨ρ1, h1, env, r1, re1, WpS.bind w1 re1 fun o h2 ρ2 H2 vo f2 r2 q2 re2 w2 => ?_⟩
  refine ⟨ρ2, h2, env, r2, re2, WpS.bind w2 re2 fun i h3 ρ3 H3 vi f3 r3 q3 re3 w3 => ?_⟩
  cases es : setA o i x h3 with
  | none => rw [es] at w3; exact w3.elim
  | some h4 =>
    rw [es] at w3
    exact ⟨ρ3, h3, o, i, x, h4, r3, q2.fut f3, q3, (q1.fut f2).fut f3, es, fun H' fu r' => w3 ρ3 H' σ fu r' (re3.fut fu)⟩

/-! ### o[i] op= e -/
def ixG (a b : D) (h : MH) : Option (D × MH) := match a, b with
  | .ref j, .int i => match h.get j with
    | some (.lst xs) => keep h (atI xs i)
    | some (.dct kvs) => keep h (valD kvs (.inl i))
    | _ => none
  | a, b => match dgetR a b h with
    | some r => some r
    | none => dtGet a b h
theorem get_list {pins : List (Addr × Obj)} {σ : L2.St} {H : Hp} {s : Shared} {p : Addr} {xs : List V} {i : Int} {t : Tok} {z : V} {Q : VK} (I : Inv X pins σ H s) (hq : SqL X.K H p xs) (he : atI xs i = some z) (q : Q z H) :
    wpAny (model X.prog X.w) X.A (getItem (.ref p) (.int i t)) (EP X pins σ Q) X.xe s := by
  obtain ⟨its, r, pl, hz⟩ := I.list hq
  obtain ⟨j, h1, h2, h3, h4, h5⟩ := atI_get he
  obtain ⟨w, ew, rw'⟩ := r.get h2
  have hl := r.length
  have hn := line63
  have fin : EP X pins σ Q w s := ⟨z, H, I, rw', q⟩
  by_cases h0 : 0 ≤ i
  · have hj : i.toNat = j := by
      rw [seqIndex_of h0 h5] at h1
      exact Option.some.inj h1
    exact wpAny_getItem_list pl.isList h0 (by omega) (by rw [hj]; simpa using ew) fin
  · have hj : (i + (its.toArray.size : Int)).toNat = j := by
      rw [seqIndex_neg (by omega) h4] at h1
      rw [List.size_toArray, ← hl]
      exact Option.some.inj h1
    exact wpAny_getItem_list_neg (x := w) pl.isList (by omega) (by rw [List.size_toArray] <;> omega) (by omega) (by rw [hj]; simpa using ew) fin
theorem get_any (hr : Room k X.A) : PGet X (rOp X.K G ixG) := by
  intro pins s σ H x y v u Q I rx ry q
  obtain ⟨ρ, h, a, b, w, h', R, ra, rb, e, kk⟩ := q
  have dict : ∀ {a b : D}, RD X.K G ρ H a x → RD X.K G ρ H b y → (match dgetR a b h with
      | some r => some r
      | none => dtGet a b h) = some (w, h') → wpAny (model X.prog X.w) X.A (getItem v u) (EP X pins σ Q) X.xe s := by
    intro a b ra rb e
    split at e
    · rename_i r er
      cases e
      obtain ⟨rfl, p, z, rfl, g, rz⟩ := dgetR_v R ra rb er
      obtain rfl : v = Value.ref p := rx
      exact d_getItem (hu1 hr) I g ry fun w' s3 I3 rw' => ⟨z, H, I3, rw', kk ρ H z .refl R rz⟩
    · obtain ⟨p, rfl, ht, hw⟩ := dtGet_run (Q := EP X pins σ Q) (E := X.xe) (hroom hr) I R ra rb rx ry e fun z r s' hh I' rz rr => ⟨z, H, I', rr, by subst hh; exact kk ρ H z .refl R rz⟩
      exact hw
  unfold ixG at e
  split at e
  · rename_i j i
    split at e
    · rename_i xs g1
      obtain ⟨e1, rfl⟩ := keep_eq e
      obtain ⟨a1, ys, p1, p2, p3⟩ := R.lst g1
      cases rb
      obtain ⟨t, rfl⟩ := (show ∃ t, u = Value.int i t from ry)
      cases ra with
      | ref ha =>
        rw [ha] at p1; cases p1
        obtain rfl := (show v = Value.ref _ from rx)
        obtain ⟨z, e2, e3⟩ := p3.atI e1
        exact get_list I (.of p2) e2 (kk ρ H _ .refl R e3)
    · rename_i kvs g1
      refine dict ra rb ?_
      have : dgetR (.ref j) (.int i) h = some (w, h') := by
        unfold dgetR
        simp only [g1]
        exact e
      rw [this]
    · cases e
  · exact dict ra rb e
def sAugA (mo mi : Mx) (f : D → D → MH → Option (D × MH)) (m : Mx) : Ms := fun env h => (mo env h).toS env fun o h1 => (mi env h1).toS env fun i h2 => match ixG o i h2 with
  | some (x, h3) => (m env h3).toS env fun y h4 => match f x y h4 with
    | some (z, h5) => match setA o i z h5 with
      | some h6 => .nx env h6
      | none => .bad
    | none => .bad
  | none => .bad
theorem ms_augA {o i : Expr} {mo mi m : Mx} {p : Pos} {op : Operator} {f : D → D → MH → Option (D × MH)} (hr : Room k X.A) (hf : OpOK X G (inplaceOp op) f) (ho : PE X o (RdE X.K G W mo)) (hi : PE X i (RdE X.K G W mi)) (he : PE X e (RdE X.K G W m))
    (ha : ∀ ov iv new, augStore i ov iv new = (do holding [new, ov, iv] (setItem ov iv new); release [new, ov, iv] []; pure .next) := by intros; rfl) : PS X (.AugAssign (.Subscript o i p) op e pos) (RdS X.K G W (sAugA mo mi f m)) := by
  refine PS.imp (ps_augS (tip := rOp X.K G f) ho hi (get_any (G := G) hr) he hf (set_any (G := G) hr) ha) fun D σ H q => ?_
  obtain ⟨ρ, h, env, r, re, w⟩ := q
  refine ⟨ρ, h, env, r, re, WpS.bind w re fun o h1 ρ1 H1 vo f1 r1 q1 re1 w1 => ?_⟩
  refine ⟨ρ1, h1, env, r1, re1, WpS.bind w1 re1 fun i h2 ρ2 H2 vi f2 r2 q2 re2 w2 => ?_⟩
  cases eg : ixG o i h2 with
  | none => rw [eg] at w2; exact w2.elim
  | some p =>
    rw [eg] at w2
    refine ⟨ρ2, h2, o, i, p.1, p.2, r2, q1.fut f2, q2, by rw [eg], fun ρ3 H3 vx f3 r3 q3 => ?_⟩
    have re3 := re2.fut f3
    have w3 := WpS.fut f3 w2
    refine ⟨ρ3, p.2, env, r3, re3, WpS.bind w3 re3 fun y h4 ρ4 H4 vy f4 r4 q4 re4 w4 => ?_⟩
    cases ef : f p.1 y h4 with
    | none => rw [ef] at w4; exact w4.elim
    | some z =>
      rw [ef] at w4
      refine ⟨ρ4, h4, p.1, y, z.1, z.2, r4, q3.fut f4, q4, by rw [ef], fun ρ5 H5 v5 f5 r5 q5 => ?_⟩
      have w5 := WpS.fut f5 w4
      cases es : setA o i z.1 z.2 with
      | none => simp only [es] at w5; exact w5.elim
      | some h6 =>
        simp only [es] at w5
        have fa := ((f3.trans f4).trans f5)
        exact ⟨ρ5, z.2, o, i, z.1, h6, r5, (q1.fut f2).fut fa, q2.fut fa, q5, es, fun H' fu r' => w5 ρ5 H' σ fu r' ((re4.fut f5).fut fu)⟩

/-! ### {} -/
def eDnew : Mx := fun _ h => .ok (.ref h.n) (h.add (.dct []))
theorem me_dnew : PE X (.Dict [] [] pos) (RdE X.K G W eDnew) := by
  refine PE.imp pe_dnewK fun σ H Q q => ?_
  obtain ⟨ρ, h, env, r, re, w⟩ := q
  intro p hp
  exact w _ _ _ (Fut.upd hp) (r.new (o := .dct []) hp rfl ⟨[], upd_same, .nil⟩) (.ref (by rw [← r.len]; simp))

/-! ### len of anything -/
def MH.dlen (h : MH) (i : Nat) : Option Nat := match h.get i with
  | some (.dct kvs) => some kvs.length
  | some (.rct kvs) => some kvs.length
  | some (.dt kvs) => some kvs.length
  | some (.rdt kvs) => some kvs.length
  | _ => none
def lenA (ds : List D) (h : MH) : Option (D × MH) := match lenF ds h with
  | some r => some r
  | none => match ds with
    | [.ref i] => (h.dlen i).map fun (n : Nat) => (.int (n : Int), h)
    | _ => none
theorem ok_lenA : CallOK X G (.builtin "len") lenA := by
  intro pins s σ H vs us Q I r q
  obtain ⟨ρ, h, ds, w, h', R, rs, e, k⟩ := q
  unfold lenA at e
  split at e
  · rename_i p ep
    cases e
    exact ok_len pins s σ H vs us Q I r ⟨ρ, h, ds, w, h', R, rs, ep, k⟩
  · split at e
    · rename_i i _
      rw [Option.map_eq_some_iff] at e
      obtain ⟨(n : Nat), e, e'⟩ := e
      cases e'
      cases rs with
      | cons r1 r2 =>
        cases r2
        obtain ⟨u, rfl, rx⟩ := vals1 r
        have plain : ∀ {kvs : List (Key × D)} {a : Addr} {vs : List (Key × V)}, kvs.length = n → RFs X.K G ρ H kvs vs → Rd H a (.dK vs) → u = .ref a → wpAny (model X.prog X.w) X.A (call (.builtin "len") [u]) (EP X pins σ Q) X.xe s := by
          intro kvs a vs hn rf hd eu
          subst eu
          obtain ⟨z, hd', us', rel, dd⟩ := dk_rd I.hok hd
          have hl : us'.length = n := by rw [← rel.length, ← rf.len]; exact hn
          refine PySem.call_len_dict (knd := mixKind X.prog X.w) hd' dd (by have := line63; have := rel.length; omega) ?_
          exact ⟨.int n, H, I.tok _, ⟨_, by rw [hl]⟩, k ρ H _ .refl R (.int _)⟩
        have tup : ∀ {kvs : List (D × D)}, h.dt i = some kvs → kvs.length = n → wpAny (model X.prog X.w) X.A (call (.builtin "len") [u]) (EP X pins σ Q) X.xe s := by
          intro kvs hd hn
          obtain ⟨a, vs, ws, p1, p3, p4, h4, hl, hm⟩ := R.dtH I hd
          cases r1 with
          | ref ha =>
            rw [ha] at p1; cases p1
            obtain rfl := (show u = Value.ref _ from rx)
            have hz : (List.zipWith yz vs ws).length = n := by rw [List.length_zipWith, hl, Nat.min_self, ← p4.len]; exact hn
            refine call_len_dictH p3.low hm (by have := line63; have := p3.len; rw [hz, ← hn, p4.len]; omega) ?_
            exact ⟨.int n, H, I.tok _, ⟨_, by rw [hz]⟩, k ρ H _ .refl R (.int _)⟩
        unfold MH.dlen at e
        split at e
        · rename_i kvs g
          cases e
          obtain ⟨a, e1, vs, e2, e3⟩ := R.ob _ _ g
          cases r1 with
          | ref ha => rw [ha] at e1; cases e1; exact plain rfl e3 (.inl e2) rx
        · rename_i kvs g
          cases e
          obtain ⟨a, e1, o, vs, e2, e3⟩ := R.ob _ _ g
          cases r1 with
          | ref ha => rw [ha] at e1; cases e1; exact plain rfl e3 (.inr ⟨o, e2⟩) rx
        · rename_i kvs g
          cases e
          exact tup (by unfold MH.dt; rw [g]) rfl
        · rename_i kvs g
          cases e
          exact tup (by unfold MH.dt; rw [g]) rfl
        · cases e
    · cases e
end
end MM

set_option Elab.async false
set_option linter.all false
set_option maxRecDepth 100000
set_option maxHeartbeats 4000000
set_option autoImplicit false
/-! dicts walked while they are locked -/
namespace MM
open PySem PySem.Spec PyProof.Rows L2

/-! ### what holds of a memory holds when only tuples are kept -/
section
variable {K : PySem.W.Frag} {G : Nat → Option Addr} {ρ : List Addr} {H H' : Hp} {h : MH}
mutual
theorem RD.up (t : ∀ a xs, SqT K H a xs → SqT K H' a xs) : ∀ {d : D} {v : V}, RD K G ρ H d v → RD K G ρ H' d v
  | _, _, .non => .non
  | _, _, .bl b => .bl b
  | _, _, .int i => .int i
  | _, _, .str x => .str x
  | _, _, .tup a b => .tup (t _ _ a) (RDs.up t b)
  | _, _, .ref e => .ref e
  | _, _, .ty n => .ty n
  | _, _, .rep n => .rep n
  | _, _, .stat e => .stat e
theorem RDs.up (t : ∀ a xs, SqT K H a xs → SqT K H' a xs) : ∀ {d : List D} {v : List V}, RDs K G ρ H d v → RDs K G ρ H' d v
  | _, _, .nil => .nil
  | _, _, .cons a b => .cons (RD.up t a) (RDs.up t b)
end
theorem RFs.up {κ : Type} (t : ∀ a xs, SqT K H a xs → SqT K H' a xs) : ∀ {d : List (κ × D)} {v : List (κ × V)}, RFs K G ρ H d v → RFs K G ρ H' d v
  | _, _, .nil => .nil
  | _, _, .cons a b => .cons (a.up t) (RFs.up t b)
theorem RKs.up (t : ∀ a xs, SqT K H a xs → SqT K H' a xs) : ∀ {d : List (D × D)} {v : List (NestedKey × Addr × V)}, RKs K G ρ H d v → RKs K G ρ H' d v
  | _, _, .nil => .nil
  | _, _, .cons e a b c => .cons e (a.up t) (b.up t) (RKs.up t c)
theorem RO.up {a : Addr} {o : O} (nt : ∀ (b : Addr) (ob : Obj) (xs : List V), H b = Option.some (HO.frz ob (.tup xs)) → H' b = Option.some (HO.frz ob (.tup xs))) (t : ∀ a xs, SqT K H a xs → SqT K H' a xs) (k : o.isK = false → H' a = H a) (r : RO K G ρ H a o) : RO K G ρ H' a o := by
  cases o with
  | lst ds => obtain ⟨xs, e, q⟩ := r; exact ⟨xs, (k rfl).trans e, q.up t⟩
  | ro ds => obtain ⟨o, xs, e, q⟩ := r; exact ⟨o, xs, (k rfl).trans e, q.up t⟩
  | kl ds => obtain ⟨xs, e, q⟩ := r; exact ⟨xs, e, q.up t⟩
  | ins C fs => obtain ⟨c, dx, vs, e0, e, q, nd⟩ := r; exact ⟨c, dx, vs, e0, (k rfl).trans e, q.up t, fun ds v z0 z => let ⟨b, e1, o, h1, h2, h3⟩ := nd ds v z0 z; ⟨b, e1, o, h1, h2, h3.imp (fun ⟨xs, e⟩ => ⟨xs, nt _ _ _ e⟩) id⟩⟩
  | dct ks => obtain ⟨vs, e, q⟩ := r; exact ⟨vs, (k rfl).trans e, q.up t⟩
  | rct ks => obtain ⟨o, vs, e, q⟩ := r; exact ⟨o, vs, (k rfl).trans e, q.up t⟩
  | dt ks => obtain ⟨vs, e, z, q⟩ := r; exact ⟨vs, (k rfl).trans e, z, q.up t⟩
  | rdt ks => obtain ⟨o, vs, e, z, q⟩ := r; exact ⟨o, vs, (k rfl).trans e, z, q.up t⟩
theorem Rel.setU {i : Nat} {a : Addr} {u : HO} {o o' : O} (r : Rel K G ρ h H) (g : h.get i = some o') (nk' : o'.isK = false) (nk : o.isK = false) (e : ρ[i]? = some a) (nt : ∀ (b : Addr) (ob : Obj) (xs : List V), H b = some (HO.frz ob (.tup xs)) → (upd H a u) b = some (HO.frz ob (.tup xs))) (t : ∀ b xs, SqT K H b xs → SqT K (upd H a u) b xs) (w : RO K G ρ (upd H a u) a o) : Rel K G ρ (h.set i o) (upd H a u) := by
  refine ⟨r.len, fun j ob q => ?_, fun j b q => ?_, fun x y b ox oy g1 g2 k1 k2 e1 e2 => ?_⟩
  · rw [MH.get_set] at q
    by_cases hj : j = i
    · rw [if_pos hj] at q; cases q
      exact ⟨a, by rw [hj]; exact e, w⟩
    · rw [if_neg hj] at q
      obtain ⟨b, eb, ro⟩ := r.ob j ob q
      refine ⟨b, eb, ro.up nt t fun nk => upd_ne ?_⟩
      rintro rfl
      exact hj (r.inj _ _ _ _ _ q g nk nk' eb e)
  · rw [MH.get_set]
    by_cases hj : j = i
    · rw [if_pos hj]; exact ⟨_, rfl⟩
    · rw [if_neg hj]; exact r.full j b q
  · rw [MH.get_set] at g1 g2
    by_cases hx : x = i
    · by_cases hy : y = i
      · rw [hx, hy]
      · rw [if_neg hy] at g2
        subst hx
        exact r.inj _ _ _ _ _ g g2 nk' k2 e1 e2
    · rw [if_neg hx] at g1
      by_cases hy : y = i
      · subst hy
        exact r.inj _ _ _ _ _ g1 g k1 nk' e1 e2
      · rw [if_neg hy] at g2
        exact r.inj _ _ _ _ _ g1 g2 k1 k2 e1 e2
theorem sqT_other {a d : Addr} {o : HO} {xs : List V} (n : NoTup (H d) ∨ ∃ od u, H d = some (.frz od u) ∧ ∀ ys, u ≠ .tup ys) (q : SqT K H a xs) : SqT K (upd H d o) a xs := by
  rcases n with n | ⟨od, u, e, ne⟩
  · exact sqT_upd n q
  · rcases q with (q | ⟨u', q⟩) | q
    · have hn : a ≠ d := by rintro rfl; rw [e] at q; cases q
      exact .inl (.inl (by rw [upd_ne hn]; exact q))
    · have hn : a ≠ d := by rintro rfl; rw [e] at q; cases q; exact ne _ rfl
      exact .inl (.inr ⟨u', by rw [upd_ne hn]; exact q⟩)
    · exact .inr q
end

/-! ### a dict is locked -/
def lkO : O → Option O
  | .dct k => some (.rct k)
  | .dt k => some (.rdt k)
  | _ => none
section
variable {K : PySem.W.Frag} {G : Nat → Option Addr} {ρ : List Addr} {H : Hp} {h : MH}
theorem lock_at {i : Nat} {o o' : O} (r : Rel K G ρ h H) (g : h.get i = some o) (e : lkO o = some o') : ∃ d u, ρ[i]? = some d ∧ H d = some u ∧ Mut (some u) ∧ NoTup (some u) ∧ o.isK = false ∧ o'.isK = false ∧ (∀ ys, u ≠ .tup ys) ∧
    (∀ od, Rel K G ρ (h.set i o') (upd H d (.frz od u))) ∧ ∀ {ρ' : List Addr} {H' : Hp} {h' : MH} {od : Obj}, Fut K ρ (upd H d (.frz od u)) ρ' H' → Rel K G ρ' h' H' → H' d = some (.frz od u) ∧ Fut K ρ H ρ' (upd H' d u) ∧ ((∃ o2, h'.get i = some o2 ∧ lkO o2 = none ∧ o2.isK = false) → Rel K G ρ' (h'.set i o) (upd H' d u)) := by
  have core : ∀ {d : Addr} {u : HO}, ρ[i]? = some d → H d = some u → Mut (some u) → NoTup (some u) → o.isK = false → o'.isK = false → (∀ ys, u ≠ .tup ys) → (∀ od, RO K G ρ (upd H d (.frz od u)) d o') → (∀ {ρ' : List Addr} {H' : Hp}, Fut K ρ H ρ' (upd H' d u) → RO K G ρ' (upd H' d u) d o) →
      ∃ d u, ρ[i]? = some d ∧ H d = some u ∧ Mut (some u) ∧ NoTup (some u) ∧ o.isK = false ∧ o'.isK = false ∧ (∀ ys, u ≠ .tup ys) ∧
    (∀ od, Rel K G ρ (h.set i o') (upd H d (.frz od u))) ∧ ∀ {ρ' : List Addr} {H' : Hp} {h' : MH} {od : Obj}, Fut K ρ (upd H d (.frz od u)) ρ' H' → Rel K G ρ' h' H' → H' d = some (.frz od u) ∧ Fut K ρ H ρ' (upd H' d u) ∧ ((∃ o2, h'.get i = some o2 ∧ lkO o2 = none ∧ o2.isK = false) → Rel K G ρ' (h'.set i o) (upd H' d u)) := by
    intro d u e1 e2 mu nt k1 k2 nu ro back
    refine ⟨d, u, e1, e2, mu, nt, k1, k2, nu, fun od => r.set g k1 k2 e1 (by rw [e2]; exact nt) (ro od), fun {ρ' H' h' od} f r' => ?_⟩
    have hd : H' d = some (.frz od u) := f.frz d od u upd_same
    have ns : ∀ {a : Addr} {x : HO}, H a = some x → (∀ b v, x ≠ .frz b v) → x ≠ u → (upd H d (.frz od u)) a = some x := fun {a x} q n1 n2 => by
      rw [upd_ne]
      · exact q
      · rintro rfl; rw [e2] at q; cases q; exact n2 rfl
    have nf : ∀ b v, u ≠ .frz b v := fun b v => (nt u rfl).2.1 b v
    have ft : ∀ a xs, SqT K H a xs → SqT K (upd H' d u) a xs := fun a xs q => by
      refine sqT_other (.inr ⟨od, u, hd, nu⟩) (f.tup a xs (sqT_other (.inl (by rw [e2]; exact nt)) q))
    have fu : Fut K ρ H ρ' (upd H' d u) := by
      obtain ⟨t, rfl, ht⟩ := f.pre
      refine ⟨⟨t, rfl, fun p hp => ?_⟩, ft, fun a o q na => ?_, fun a q => ?_, fun a fs q => ?_, fun a b v q => ?_⟩
      · have z := ht p hp
        have hn : p ≠ d := by rintro rfl; rw [upd_same] at z; cases z
        rw [upd_ne hn] at z; exact z
      · have hn : a ≠ d := by rintro rfl; exact na (List.mem_of_getElem? e1)
        rw [upd_ne hn]
        exact f.fr a o (by rw [upd_ne hn]; exact q) na
      · have hn : a ≠ d := by rintro rfl; rw [upd_same] at q; cases q
        rw [upd_ne hn] at q
        have z := f.keep a q
        rw [upd_ne hn] at z; exact z
      · have hn : a ≠ d := by rintro rfl; rw [e2] at q; cases q; exact (nt _ rfl).2.2 _ rfl
        rw [upd_ne hn]
        exact f.xd a fs (by rw [upd_ne hn]; exact q)
      · have hn : a ≠ d := by rintro rfl; rw [e2] at q; cases q; exact nf _ _ rfl
        rw [upd_ne hn]
        exact f.frz a b v (by rw [upd_ne hn]; exact q)
    refine ⟨hd, fu, fun ⟨o2, g2, _, k3⟩ => ?_⟩
    exact r'.setU g2 k3 k1 (f.at e1) (fun b o xs q => by
      rw [upd_ne]
      · exact q
      · rintro rfl; rw [hd] at q; cases q; exact nu _ rfl) (fun b xs q => sqT_other (.inr ⟨od, u, hd, nu⟩) q) (back fu)
  cases o with
  | dct ks =>
    cases e
    obtain ⟨d, e1, vs, e2, e3⟩ := r.ob _ _ g
    refine core e1 e2 trivial (.dK _) rfl rfl (fun _ => HO.noConfusion) (fun od => ⟨od, vs, upd_same, e3.up fun a xs q => sqT_other (.inl (by rw [e2]; exact .dK _)) q⟩) fun {ρ' H'} f => ⟨vs, upd_same, e3.fut f⟩
  | dt ks =>
    cases e
    obtain ⟨d, e1, vs, e2, e3, e4⟩ := r.ob _ _ g
    refine core e1 e2 trivial (.dt _ _) rfl rfl (fun _ => HO.noConfusion) (fun od => ⟨od, vs, upd_same, e3, e4.up fun a xs q => sqT_other (.inl (by rw [e2]; exact .dt _ _)) q⟩) fun {ρ' H'} f => ⟨vs, upd_same, e3, e4.fut f⟩
  | _ => cases e
end
section
variable {K : PySem.W.Frag} {G : Nat → Option Addr} {ρ : List Addr} {H H' : Hp}
theorem REnv.up {env : ME} {σ : L2.St} (t : ∀ a xs, SqT K H a xs → SqT K H' a xs) (r : REnv K G ρ H env σ) : REnv K G ρ H' env σ := ⟨r.len, fun i d e => let ⟨v, h1, h2⟩ := r.at_ i d e; ⟨v, h1, h2.up t⟩⟩
end
def isLk : Option O → Bool
  | some (.rct _) => true
  | some (.rdt _) => true
  | _ => false
theorem isLk_some {o : Option O} (h : isLk o = true) : ∃ o2, o = some o2 ∧ lkO o2 = none ∧ o2.isK = false := by
  unfold isLk at h
  split at h
  · exact ⟨_, rfl, rfl, rfl⟩
  · exact ⟨_, rfl, rfl, rfl⟩
  · cases h
def eLk (i : Nat) (m : MH → Res D) (h : MH) : Res D := match h.get i with
  | some o => match lkO o with
    | some o' => match m (h.set i o') with
      | .ok v h2 => bif isLk (h2.get i) then .ok v (h2.set i o) else .bad
      | .exc C fs h2 => .exc C fs h2
      | .bad => .bad
    | none => m h
  | none => .bad
def eLks : List Nat → (MH → Res D) → MH → Res D
  | [], m, h => m h
  | i :: is, m, h => eLk i (eLks is m) h
/-- the dicts that f names are locked while m runs -/
def eLock (f : ME → MH → List Nat) (m : Mx) : Mx := fun env h => eLks (f env h) (m env) h
def sLk (i : Nat) (m : MH → SR) (h : MH) : SR := match h.get i with
  | some o => match lkO o with
    | some o' => match m (h.set i o') with
      | .nx e h2 => bif isLk (h2.get i) then .nx e (h2.set i o) else .bad
      | .bk e h2 => bif isLk (h2.get i) then .bk e (h2.set i o) else .bad
      | .ct e h2 => bif isLk (h2.get i) then .ct e (h2.set i o) else .bad
      | .rt v h2 => bif isLk (h2.get i) then .rt v (h2.set i o) else .bad
      | .exc C fs e h2 => .exc C fs e h2
      | .bad => .bad
    | none => m h
  | none => .bad
def sLks : List Nat → (MH → SR) → MH → SR
  | [], m, h => m h
  | i :: is, m, h => sLk i (sLks is m) h
def sLock (f : ME → MH → List Nat) (m : Ms) : Ms := fun env h => sLks (f env h) (m env) h
section
variable {X : Cx} {G : Nat → Option Addr} {W : WX} {e : Expr} {st : Stmt}
def tLk (t : TE) : List Nat → TE
  | [] => t
  | _ :: is => fun σ H Q => tLk t is σ H Q ∨ tLockE (tLk t is) σ H Q
theorem pe_tLk {t : TE} (p : PE X e t) : ∀ is, PE X e (tLk t is)
  | [] => p
  | _ :: is => PE.or (pe_tLk p is) (pe_lock (pe_tLk p is))
theorem PS.or {t t' : TS} (p : PS X st t) (p' : PS X st t') : PS X st (fun D σ H => t D σ H ∨ t' D σ H) := ⟨fun pins s σ H D I q => q.elim (p.run pins s σ H D I) (p'.run pins s σ H D I)⟩
def tLkS (t : TS) : List Nat → TS
  | [] => t
  | _ :: is => fun D σ H => tLkS t is D σ H ∨ tLock (tLkS t is) D σ H
theorem ps_tLk {t : TS} (p : PS X st t) : ∀ is, PS X st (tLkS t is)
  | [] => p
  | _ :: is => PS.or (ps_tLk p is) (ps_lock (ps_tLk p is))
theorem lkE {m : Mx} {env : ME} {σ : L2.St} : ∀ (is : List Nat) {ρ : List Addr} {h : MH} {H : Hp} {Q : VK}, Rel X.K G ρ h H → REnv X.K G ρ H env σ → Wp X.K G (RD X.K G) ρ H (eLks is (m env) h) Q (fun c d H' => W c d σ H') → tLk (RdE X.K G W m) is σ H Q
  | [], ρ, h, H, Q, r, re, w => ⟨ρ, h, env, r, re, w⟩
  | i :: is, ρ, h, H, Q, r, re, w => by
    unfold eLks eLk at w
    split at w
    · rename_i o g
      split at w
      · rename_i o' el
        obtain ⟨d, u, e1, e2, mu, nt, k1, k2, nu, hl, hu⟩ := lock_at r g el
        refine .inr ⟨d, u, e2, mu, fun od => lkE is (hl od) (re.fut (Fut.updS e1 (by rw [e2]; exact nt))) ?_⟩
        have f0 : Fut X.K ρ H ρ (upd H d (.frz od u)) := Fut.updS e1 (by rw [e2]; exact nt)
        cases em : eLks is (m env) (h.set i o') with
        | ok v h2 =>
          rw [em] at w
          cases ek : isLk (h2.get i) with
          | false => simp only [ek, cond_false] at w; exact w.elim
          | true =>
            simp only [ek, cond_true] at w
            intro ρ2 H2 v2 f r2 q
            obtain ⟨hd, fu, rl⟩ := hu f r2
            exact ⟨hd, w ρ2 _ v2 fu (rl (isLk_some ek)) (q.up fun a xs z => sqT_other (.inr ⟨od, u, hd, nu⟩) z)⟩
        | exc C fs h2 =>
          rw [em] at w
          exact fun ρ2 H2 c dd eg f r2 hx => w ρ2 H2 c dd eg (f0.trans f) r2 hx
        | bad => rw [em] at w; exact w.elim
      · exact .inl (lkE is r re w)
    · exact w.elim
theorem me_lock (f : ME → MH → List Nat) {m : Mx} (p : PE X e (RdE X.K G W m)) : PE X e (RdE X.K G W (eLock f m)) := ⟨fun pins s σ H Q I q => by
  obtain ⟨ρ, h, env, r, re, w⟩ := q
  exact (pe_tLk p (f env h)).run pins s σ H Q I (lkE (f env h) r re w)⟩
theorem lkS {m : Ms} {env : ME} {σ : L2.St} : ∀ (is : List Nat) {ρ : List Addr} {h : MH} {H : Hp} {D : Ends}, Rel X.K G ρ h H → REnv X.K G ρ H env σ → WpS X.K G W ρ H (sLks is (m env) h) D → tLkS (RdS X.K G W m) is D σ H
  | [], ρ, h, H, D, r, re, w => ⟨ρ, h, env, r, re, w⟩
  | i :: is, ρ, h, H, D, r, re, w => by
    unfold sLks sLk at w
    split at w
    · rename_i o g
      split at w
      · rename_i o' el
        obtain ⟨d, u, e1, e2, mu, nt, k1, k2, nu, hl, hu⟩ := lock_at r g el
        refine .inr ⟨d, u, e2, mu, fun od => lkS is (hl od) (re.fut (Fut.updS e1 (by rw [e2]; exact nt))) ?_⟩
        have f0 : Fut X.K ρ H ρ (upd H d (.frz od u)) := Fut.updS e1 (by rw [e2]; exact nt)
        cases em : sLks is (m env) (h.set i o') with
        | nx e3 h2 =>
          rw [em] at w
          cases ek : isLk (h2.get i) with
          | false => simp only [ek, cond_false] at w; exact w.elim
          | true =>
            simp only [ek, cond_true] at w
            intro ρ2 H2 v2 f r2 q
            obtain ⟨hd, fu, rl⟩ := hu f r2
            exact ⟨hd, w ρ2 _ v2 fu (rl (isLk_some ek)) (q.up fun a xs z => sqT_other (.inr ⟨od, u, hd, nu⟩) z)⟩
        | bk e3 h2 =>
          rw [em] at w
          cases ek : isLk (h2.get i) with
          | false => simp only [ek, cond_false] at w; exact w.elim
          | true =>
            simp only [ek, cond_true] at w
            intro ρ2 H2 v2 f r2 q
            obtain ⟨hd, fu, rl⟩ := hu f r2
            exact ⟨hd, w ρ2 _ v2 fu (rl (isLk_some ek)) (q.up fun a xs z => sqT_other (.inr ⟨od, u, hd, nu⟩) z)⟩
        | ct e3 h2 =>
          rw [em] at w
          cases ek : isLk (h2.get i) with
          | false => simp only [ek, cond_false] at w; exact w.elim
          | true =>
            simp only [ek, cond_true] at w
            intro ρ2 H2 v2 f r2 q
            obtain ⟨hd, fu, rl⟩ := hu f r2
            exact ⟨hd, w ρ2 _ v2 fu (rl (isLk_some ek)) (q.up fun a xs z => sqT_other (.inr ⟨od, u, hd, nu⟩) z)⟩
        | rt v h2 =>
          rw [em] at w
          cases ek : isLk (h2.get i) with
          | false => simp only [ek, cond_false] at w; exact w.elim
          | true =>
            simp only [ek, cond_true] at w
            intro ρ2 H2 v2 f r2 q
            obtain ⟨hd, fu, rl⟩ := hu f r2
            exact ⟨hd, w ρ2 _ v2 fu (rl (isLk_some ek)) (q.up fun a xs z => sqT_other (.inr ⟨od, u, hd, nu⟩) z)⟩
        | exc C fs e3 h2 =>
          rw [em] at w
          exact fun ρ2 H2 σ2 c dd eg f r2 re2 hx => w ρ2 H2 σ2 c dd eg (f0.trans f) r2 re2 hx
        | bad => rw [em] at w; exact w.elim
      · exact .inl (lkS is r re w)
    · exact w.elim
theorem ms_lock (f : ME → MH → List Nat) {m : Ms} (p : PS X st (RdS X.K G W m)) : PS X st (RdS X.K G W (sLock f m)) := ⟨fun pins s σ H D I q => by
  obtain ⟨ρ, h, env, r, re, w⟩ := q
  exact (ps_tLk p (f env h)).run pins s σ H D I (lkS (f env h) r re w)⟩
end
/-- which dicts: in slot i; in the attribute f of slot i; in the list in slot i -/
def lkV (i : Nat) : ME → MH → List Nat := fun env _ => match env[i]? with
  | some (some (.ref j)) => [j]
  | _ => []
def lkA (i : Nat) (f : Str) : ME → MH → List Nat := fun env h => match env[i]? with
  | some (some (.ref j)) => match h.get j with
    | some (.ins _ fs) => match fs.lookup f with
      | some (.ref k) => [k]
      | _ => []
    | _ => []
  | _ => []
def refsOf : List D → List Nat
  | [] => []
  | .ref j :: ds => j :: refsOf ds
  | _ :: ds => refsOf ds
def lkL (i : Nat) : ME → MH → List Nat := fun env h => match env[i]? with
  | some (some x) => match items h x with
    | some ds => refsOf ds
    | none => []
  | _ => []

/-! ### the keys, the values of a locked dict -/
def Itn (d : Addr) (o : Obj) : It :=
  ⟨fun i H => ∃ vs, H d = some (.frz o (dtO d vs)) ∧ i < vs.length, fun i H x H' => H' = H ∧ ∀ vs, H d = some (.frz o (dtO d vs)) → ∃ y, vs[i]? = some y ∧ x = .ref y.2.1, fun i H => ∃ vs, H d = some (.frz o (dtO d vs)) ∧ vs.length ≤ i⟩
section
variable {X : Cx} {pins : List (Addr × Obj)} {σ : L2.St} {H : Hp} {s : Shared} {d : Addr} {o : Obj}
theorem Inv.frzN {vs : List (NestedKey × Addr × V)} (I : Inv X pins σ H s) (h : H d = some (.frz o (dtO d vs))) :
    s.heap.get? d = some o ∧ o.ExactDict ∧ ∃ (es : Array DictEntry) (ep : Nat), o.data = .dict es ep ∧ es.size = vs.length ∧
      ∀ (i : Nat) (y : NestedKey × Addr × V), vs[i]? = some y → ∃ (en : DictEntry), es[i]? = some en ∧ en.key = .ref y.2.1 := by
  obtain ⟨hd, ⟨o', es, ep, ws, ho, hx, hdt, h4, h5⟩, _, _⟩ := I.hok d _ h
  rw [hd] at ho
  cases ho
  have hl : ws.length = vs.length := by rw [← h4.length, List.length_map]
  refine ⟨hd, hx, es, ep, hdt, ?_, fun i y e => ?_⟩
  · rw [← Array.length_toList, h5, List.length_zipWith, hl, Nat.min_self]
  · have hi : i < vs.length := (List.getElem?_eq_some_iff.mp e).1
    have hw : ws[i]? = some (ws[i]'(by omega)) := List.getElem?_eq_getElem _
    refine ⟨entN y (ws[i]'(by omega)), ?_, rfl⟩
    rw [← Array.getElem?_toList, h5, List.getElem?_zipWith, e, hw]
end
section
variable {P : Program} {w : World} {K : PySem.W.Frag} {tg : Expr} {d : Addr} {o : Obj} {es : Array DictEntry} {ep : Nat}
theorem turn_keysN (it : Addr) (hod : o.data = .dict es ep) : Turn P w K tg (Itn d o) [it] it (fun i h => h.IsKeyIter it d i es.size ep) where
  mem := by simp
  obj := fun i h st b hb => by
    have e : b = it := by simpa using hb
    subst e
    obtain ⟨oi, e, c, dd⟩ := st
    exact ⟨oi, e, fun v z => by rw [dd] at z; cases z⟩
  keep := fun i h h' st k => st.at fun oi e => k it (by simp) oi e
  item := by
    intro X hP hw hK hc i pins s σ H E I hf st hg
    subst hP hw hK
    obtain ⟨vs, hd, hi⟩ := hg
    obtain ⟨f0, f1, f2, f3, f4, f5⟩ := hf it (by simp)
    obtain ⟨hgd, hx, es', ep', hdt, hsz, ent⟩ := Inv.frzN I hd
    obtain ⟨rfl, rfl⟩ := dict_ep hod hdt
    obtain ⟨y, hy⟩ : ∃ p, vs[i]? = some p := ⟨vs[i], List.getElem?_eq_getElem hi⟩
    obtain ⟨en, hen, hkey⟩ := ent i y hy
    refine next_key_item st hgd hdt rfl hen fun h' st' sb => ?_
    have I1 : Inv X pins σ H { s with heap := h' } := I.turned (t' := s.toks) (fun b ob hb e => (sb.2 b hb).trans e) f0 f1 f3 f4 f5
    obtain ⟨oi, e, c, dd⟩ := id st'
    exact ⟨en.key, rfl, go_of (s := { s with heap := h' }) e c dd (by decide) ⟨.ref y.2.1, H, I1, hkey, ⟨rfl, fun vs' h' => by
      obtain ⟨_, _, es2, ep2, hdt2, hsz2, ent2⟩ := Inv.frzN I h'
      obtain ⟨rfl, rfl⟩ := dict_ep hdt hdt2
      have hi2 : i < vs'.length := by omega
      obtain ⟨en2, e1, e2⟩ := ent2 i _ (List.getElem?_eq_getElem hi2)
      rw [hen] at e1; cases e1
      rw [hkey] at e2
      injection e2 with e2
      exact ⟨_, List.getElem?_eq_getElem hi2, by rw [e2]⟩⟩, st', fun b hb => (hf b hb).1⟩⟩
  done := by
    intro X hP hw hK hc i pins s σ H E I hf st hg
    subst hP hw hK
    obtain ⟨vs, hd, hi⟩ := hg
    obtain ⟨f0, f1, f2, f3, f4, f5⟩ := hf it (by simp)
    obtain ⟨hgd, hx, es', ep', hdt, hsz, ent⟩ := Inv.frzN I hd
    obtain ⟨rfl, rfl⟩ := dict_ep hod hdt
    exact next_key_end (I.ok.hd hc) st hgd hdt rfl (by omega) fun h' eb => ⟨rfl, I.turned (t' := s.toks) (fun b ob hb e => eb b ob hb e) f0 f1 f3 f4 f5⟩
  self := fun A i s Q E st h => by
    refine wpAny_pyIter_slot st.typeIs F.slot_dict_keyiterator_iter (wpAny_call_entry F.slot_dict_keyiterator_iter st.typeIs F.entry_dict_keyiterator_iter ?_ (F.args_dict_keyiterator_iter_1 _))
    show wpAny _ _ (ret (.ref it)) _ _ s
    exact wpAny_pure ⟨_, rfl, "dict_keyiterator", _, st.typeIs, F.slot_dict_keyiterator_next.lookup, h⟩
end
/-- a list, a tuple, a locked dict -/
def iAny (m : Mx) : Mi := fun env h => (m env h).bind fun x h1 => match x with
  | .tup xs => .ok (.tup xs) h1
  | .ref i => match h1.seq i with
    | some xs => .ok (.lst i xs.length) h1
    | none => match h1.get i with
      | some (.rct kvs) => .ok (.dks i kvs.length) h1
      | some (.rdt kvs) => .ok (.dks i kvs.length) h1
      | _ => .bad
  | _ => .bad
section
variable {X : Cx} {G : Nat → Option Addr} {W : WX} {e l tg : Expr} {pos : Pos} {k : Nat}
theorem pi_any {tl : TE} (hl : PE X l tl) : PI X tg l (fun σ H R => tl σ H fun x H1 => ∃ a, x = .ref a ∧ (((∃ xs, SqL X.K H1 a xs) ∧ R (Itl X.K a) H1) ∨ ((∃ xs, SqT X.K H1 a xs) ∧ R (Itt X.K a) H1) ∨
    (∃ o kvs, H1 a = some (.frz o (.dK kvs)) ∧ R (Itk a o kvs) H1) ∨ ∃ o vs, H1 a = some (.frz o (dtO a vs)) ∧ (a == sysModules) = false ∧ R (Itn a o) H1)) := by
  refine ⟨fun pins s σ H R I h => ?_⟩
  refine thn (hl.run pins s σ H _ I h) fun v s1 ⟨x, H1, I1, r1, q1⟩ => ?_
  obtain ⟨a, e, q⟩ := q1
  subst e
  obtain rfl : v = Value.ref a := r1
  rcases q with ⟨⟨xs, hq⟩, q⟩ | ⟨⟨xs, hq⟩, q⟩ | ⟨o, kvs, hd, q⟩ | ⟨o, vs, hd, hs, q⟩
  · obtain ⟨its, rv, p, hz⟩ := I1.list hq
    refine wpAny_pyIter_list p.isList ?_
    exact pi_one (tk := s1.toks) I1 _ (turn_list a _) ⟨_, Heap.get?_push_size _ rfl, rfl, rfl⟩ q
  · obtain ⟨its, rv, p, hz⟩ := I1.tuple hq
    refine wpAny_pyIter_tuple (show s1.heap.IsTuple a its.toArray from p) ?_
    exact pi_one (tk := s1.toks) I1 _ (turn_tuple a _) ⟨_, Heap.get?_push_size _ rfl, rfl, rfl⟩ q
  · obtain ⟨hs, hgd, hx, es, ep, vs, hdt, hsz, kv, hm⟩ := I1.frzK hd
    refine iter_keys hs hgd hx hdt (pi_one (tk := s1.toks) I1 _ (turn_keys _ hdt) ⟨_, Heap.get?_push_size _ rfl, rfl, ?_⟩ q)
    rw [hsz] <;> rfl
  · obtain ⟨hgd, hx, es, ep, hdt, hsz, ent⟩ := Inv.frzN I1 hd
    exact iter_keys hs hgd hx hdt (pi_one (tk := s1.toks) I1 _ (turn_keysN _ hdt) ⟨_, Heap.get?_push_size _ rfl, rfl, rfl⟩ q)
theorem RFs.nth {κ : Type} {K : PySem.W.Frag} {ρ : List Addr} {H : Hp} : ∀ {ds : List (κ × D)} {vs : List (κ × V)} {i : Nat} {p : κ × D}, RFs K G ρ H ds vs → ds[i]? = some p → ∃ v, vs[i]? = some (p.1, v) ∧ RD K G ρ H p.2 v
  | _, _, i, p, .nil, e => by simp at e
  | _, _, 0, p, .cons a b, e => by simp at e; subst e; exact ⟨_, by simp, a⟩
  | _, _, i + 1, p, .cons a b, e => by
    obtain ⟨v, h1, h2⟩ := RFs.nth (i := i) b (by simpa using e)
    exact ⟨v, by simpa using h1, h2⟩
theorem RKs.nth {K : PySem.W.Frag} {ρ : List Addr} {H : Hp} : ∀ {ds : List (D × D)} {vs : List (NestedKey × Addr × V)} {i : Nat} {p : D × D}, RKs K G ρ H ds vs → ds[i]? = some p → ∃ y, vs[i]? = some y ∧ RD K G ρ H p.1 (.ref y.2.1) ∧ RD K G ρ H p.2 y.2.2
  | _, _, i, p, .nil, e => by simp at e
  | _, _, 0, p, .cons q a b c, e => by simp at e; subst e; exact ⟨_, rfl, a, b⟩
  | _, _, i + 1, p, .cons q a b c, e => by
    obtain ⟨v, h1, h2⟩ := RKs.nth (i := i) c (by simpa using e)
    exact ⟨v, by simpa using h1, h2⟩
theorem keyD_rd {K : PySem.W.Frag} {ρ : List Addr} {H : Hp} (k : Key) : RD K G ρ H (keyD k) (kV k) := by cases k with
  | inl i => exact .int i
  | inr x => exact .str x
theorem rit_dk {K : PySem.W.Frag} {ρ0 : List Addr} {H0 : Hp} {i n : Nat} {a : Addr} {o : Obj} {vs : List (Key × V)} (e : ρ0[i]? = some a) (hl : n = vs.length) (hd : H0 a = some (.frz o (.dK vs))) : RIt K G ρ0 H0 (.dks i n) (Itk a o vs) := by
  intro k ρ h H f R
  have hH := f.frz _ _ _ hd
  have get : ∀ {xs}, MI.keysS h i = some xs → ∃ kvs, h.get i = some (.rct kvs) ∧ xs = kvs.map (fun p => keyD p.1) ∧ RFs K G ρ H kvs vs := by
    intro xs ex
    unfold MI.keysS at ex
    split at ex
    · rename_i kvs g
      cases ex
      obtain ⟨a', e1, o', vs', e2, e3⟩ := R.ob _ _ g
      rw [f.at e] at e1; cases e1
      rw [hH] at e2; cases e2
      exact ⟨kvs, g, rfl, e3⟩
    · rename_i kvs g
      obtain ⟨a', e1, o', vs', e2, e3⟩ := R.ob _ _ g
      rw [f.at e] at e1; cases e1
      rw [hH] at e2; cases e2
    · cases ex
  refine ⟨fun d hk ed => ?_, fun ef => ⟨hH, by show _ ≤ n; omega⟩⟩
  simp only [MI.at] at ed
  split at ed
  · rename_i xs ex
    obtain ⟨kvs, g, rfl, rf⟩ := get ex
    rw [List.getElem?_map, Option.map_eq_some_iff] at ed
    obtain ⟨p, ep, rfl⟩ := ed
    obtain ⟨v, h1, h2⟩ := rf.nth ep
    refine ⟨⟨hH, (List.getElem?_eq_some_iff.mp h1).1⟩, fun x H' hy => ?_⟩
    obtain ⟨rfl, key, v', h3, rfl⟩ := hy
    rw [h1] at h3; cases h3
    exact ⟨.refl, R, keyD_rd _⟩
  · cases ed
theorem rit_dn {K : PySem.W.Frag} {ρ0 : List Addr} {H0 : Hp} {i : Nat} {a : Addr} {o : Obj} {vs0 : List (NestedKey × Addr × V)} {n : Nat} (e : ρ0[i]? = some a) (hd : H0 a = some (.frz o (dtO a vs0))) : RIt K G ρ0 H0 (.dks i n) (Itn a o) := by
  intro k ρ h H f R
  have hH := f.frz _ _ _ hd
  have get : ∀ {xs}, MI.keysS h i = some xs → ∃ kvs vs, h.get i = some (.rdt kvs) ∧ xs = kvs.map (·.1) ∧ H a = some (.frz o (dtO a vs)) ∧ RKs K G ρ H kvs vs := by
    intro xs ex
    unfold MI.keysS at ex
    split at ex
    · rename_i kvs g
      obtain ⟨a', e1, o', vs', e2, e3⟩ := R.ob _ _ g
      rw [f.at e] at e1; cases e1
      rw [hH] at e2; cases e2
    · rename_i kvs g
      cases ex
      obtain ⟨a', e1, o', vs', e2, e3, rk⟩ := R.ob _ _ g
      rw [f.at e] at e1; cases e1
      have e4 := e2
      rw [hH] at e4
      injection e4 with e4
      injection e4 with e5 e6
      subst e5
      exact ⟨kvs, vs', g, rfl, e2, rk⟩
    · cases ex
  refine ⟨fun d hk ed => ?_, fun ef => ?_⟩
  · simp only [MI.at] at ed
    split at ed
    · rename_i xs ex
      obtain ⟨kvs, vs, g, rfl, hv, rk⟩ := get ex
      rw [List.getElem?_map, Option.map_eq_some_iff] at ed
      obtain ⟨p, ep, rfl⟩ := ed
      obtain ⟨y, h1, h2, _⟩ := rk.nth ep
      refine ⟨⟨vs, hv, (List.getElem?_eq_some_iff.mp h1).1⟩, fun x H' hy => ?_⟩
      obtain ⟨rfl, hy⟩ := hy
      obtain ⟨y', h3, rfl⟩ := hy vs hv
      rw [h1] at h3; cases h3
      exact ⟨.refl, R, h2⟩
    · cases ed
  · obtain ⟨xs, ex, hl⟩ := eqL_some ef
    obtain ⟨kvs, vs, g, rfl, hv, rk⟩ := get ex
    rw [List.length_map] at hl
    exact ⟨vs, hv, by show _ ≤ n; rw [← rk.len]; omega⟩
theorem mi_any {m : Mx} (he : PE X e (RdE X.K G W m)) : PI X tg e (RdI X.K G W (iAny m)) := by
  refine PI.imp (pi_any he) fun σ H Q q => ?_
  obtain ⟨ρ, h, env, r, re, w⟩ := q
  refine ⟨ρ, h, env, r, re, Wp.bind w fun x h1 ρ1 H1 vx f1 r1 q1 w1 => ?_⟩
  cases q1 with
  | tup sa da => exact ⟨_, rfl, .inr (.inl ⟨⟨_, sa⟩, w1.ret r1 (rit_tup sa da)⟩)⟩
  | @ref i a ha =>
    cases es : h1.seq i with
    | some xs =>
      simp only [es] at w1
      obtain ⟨a1, ys, p1, p2, p3⟩ := r1.seq es
      rw [ha] at p1; cases p1
      exact ⟨_, rfl, .inl ⟨⟨_, p2⟩, w1.ret r1 (rit_lst ha)⟩⟩
    | none =>
      simp only [es] at w1
      split at w1
      · rename_i kvs g
        obtain ⟨a', e1, o', vs', e2, e3⟩ := r1.ob _ _ g
        rw [ha] at e1; cases e1
        exact ⟨_, rfl, .inr (.inr (.inl ⟨o', vs', e2, w1.ret r1 (rit_dk ha e3.len e2)⟩))⟩
      · rename_i kvs g
        obtain ⟨a', e1, o', vs', e2, e3, rk⟩ := r1.ob _ _ g
        rw [ha] at e1; cases e1
        exact ⟨_, rfl, .inr (.inr (.inr ⟨o', vs', e2, e3.low, w1.ret r1 (rit_dn ha e2)⟩))⟩
      · exact w1.elim
  | _ => exact w1.elim
/-- d.values() of a locked dict with plain keys -/
def iVal (m : Mx) : Mi := fun env h => (m env h).bind fun x h1 => match x with
  | .ref i => match h1.get i with
    | some (.rct kvs) => .ok (.dvs i kvs.length) h1
    | _ => .bad
  | _ => .bad
theorem rit_dv {K : PySem.W.Frag} {ρ0 : List Addr} {H0 : Hp} {i n : Nat} {a : Addr} {o : Obj} {vs : List (Key × V)} (e : ρ0[i]? = some a) (hl : n = vs.length) (hd : H0 a = some (.frz o (.dK vs))) : RIt K G ρ0 H0 (.dvs i n) (Itd a o vs) := by
  intro k ρ h H f R
  have hH := f.frz _ _ _ hd
  refine ⟨fun d hk ed => ?_, fun ef => ⟨hH, by show _ ≤ n; omega⟩⟩
  simp only [MI.at] at ed
  split at ed
  · rename_i xs ex
    unfold MI.valsS at ex
    split at ex
    · rename_i kvs g
      cases ex
      obtain ⟨a', e1, o', vs', e2, rf⟩ := R.ob _ _ g
      rw [f.at e] at e1; cases e1
      rw [hH] at e2; cases e2
      rw [List.getElem?_map, Option.map_eq_some_iff] at ed
      obtain ⟨p, ep, rfl⟩ := ed
      obtain ⟨v, h1, h2⟩ := rf.nth ep
      refine ⟨⟨hH, (List.getElem?_eq_some_iff.mp h1).1⟩, fun x H' hy => ?_⟩
      obtain ⟨rfl, key, h3⟩ := hy
      rw [h1] at h3; cases h3
      exact ⟨.refl, R, h2⟩
    · cases ex
  · cases ed
theorem mi_val {m : Mx} {apos cpos : Pos} (he : PE X e (RdE X.K G W m)) (hbase : attributeBase e "values" X.env (eval e X.env) = eval e X.env := by rfl) (hline : (apos.endLine == cpos.line) = true := by rfl) : PI X tg (.Call (.Attribute e "values" apos) [] [] cpos) (RdI X.K G W (iVal m)) := by
  refine PI.imp (pi_values he hbase hline) fun σ H Q q => ?_
  obtain ⟨ρ, h, env, r, re, w⟩ := q
  refine ⟨ρ, h, env, r, re, Wp.bind w fun x h1 ρ1 H1 vx f1 r1 q1 w1 => ?_⟩
  cases q1 with
  | @ref i a ha =>
    simp only at w1
    split at w1
    · rename_i kvs g
      obtain ⟨a', e1, o', vs', e2, e3⟩ := r1.ob _ _ g
      rw [ha] at e1; cases e1
      exact ⟨_, o', vs', rfl, e2, w1.ret r1 (rit_dv ha e3.len e2)⟩
    · exact w1.elim
  | _ => exact w1.elim
end
end MM

set_option Elab.async false
set_option linter.all false
set_option maxRecDepth 100000
set_option maxHeartbeats 4000000
set_option autoImplicit false
/-! dict comprehensions, keys of any kind -/
namespace MM
open PySem PySem.Spec PyProof.Rows L2

/-- one entry more in the dict named j -/
def setE (j : Nat) (a b : D) (h : MH) : Option MH := match setK (.ref j) a b h with
  | some h' => some h'
  | none => setT (.ref j) a b h
/-- what a store into the dict at Z makes of the heap -/
def rEnt (K : PySem.W.Frag) (G : Nat → Option Addr) (Z : Addr) (y z : V) (H : Hp) (Nx : Hp → Prop) : Prop := ∃ (ρ : List Addr) (h : MH) (j : Nat) (a b : D) (h' : MH), Rel K G ρ h H ∧ ρ[j]? = some Z ∧ RD K G ρ H a y ∧ RD K G ρ H b z ∧ setE j a b h = some h' ∧
  ∀ H', Fut K ρ H ρ H' → Rel K G ρ h' H' → Nx H'
section
variable {X : Cx} {G : Nat → Option Addr} {pins : List (Addr × Obj)} {σ : L2.St} {H : Hp} {s : Shared} {E : Value → Shared → Prop} {k : Nat}
theorem ent_run {Z : Addr} {y z : V} {u r : Value} {Nx : Hp → Prop} {Q : Unit → Shared → Prop} (hr : Room k X.A) (I : Inv X pins σ H s) (ry : RelV y u) (rz : RelV z r) (q : rEnt X.K G Z y z H Nx) (fin : ∀ s' H', Inv X pins σ H' s' → Nx H' → Q () s') :
    wpAny (model X.prog X.w) X.A (dictSet Z u r) Q E s := by
  obtain ⟨ρ, h, j, a, b, h', R, hj, ra, rb, e, kk⟩ := q
  unfold setE at e
  split at e
  · rename_i h2 es
    cases e
    unfold setK at es
    simp only at es
    split at es
    · rename_i kvs g1
      split at es
      · rename_i key ek
        cases el : ltLen kvs sizeLine with
        | false => rw [el] at es; cases es
        | true =>
          rw [el] at es; cases es
          obtain ⟨a1, p1, vs, p2, p3⟩ := R.ob _ _ g1
          rw [hj] at p1; cases p1
          obtain rfl := dkey_v ra ek
          have fu : Fut X.K ρ H ρ (upd H Z (.dK (putK vs key z))) := Fut.updS hj (by rw [p2]; exact .dK _)
          refine d_dictSet (X := X) I p2 (by rw [← p3.len]; exact ltLen_iff.mp el) ry rz fun s' I' => fin _ _ I' (kk _ fu (R.set g1 rfl rfl hj (by rw [p2]; exact .dK _) ⟨_, upd_same, (p3.put key rb).fut fu⟩))
      · cases es
    · cases es
  · unfold setT at e
    simp only at e
    split at e
    · rename_i ks g
      cases el : keyOk a && ltLen ks sizeLine with
      | false => rw [el] at e; cases e
      | true =>
        rw [el] at e; cases e
        rw [Bool.and_eq_true] at el
        obtain ⟨gd, mu, nt, o', gj, ko⟩ : h.dt j = some ks ∧ Mut (H Z) ∧ NoTup (H Z) ∧ ∃ o', h.get j = some o' ∧ o'.isK = false := by
          unfold MH.dtW at g
          unfold MH.dt
          split at g
          · rename_i q
            obtain ⟨a2, e1, us, e2, _⟩ := R.ob _ _ q
            rw [hj] at e1; cases e1; cases g
            exact ⟨by rw [q], by rw [e2]; trivial, by rw [e2]; exact .dt _ _, _, q, rfl⟩
          · rename_i q
            obtain ⟨a2, e1, us, e2, _⟩ := R.ob _ _ q
            rw [hj] at e1; cases e1; cases g
            exact ⟨by rw [q], by rw [e2]; trivial, by rw [e2]; exact .dK _, _, q, rfl⟩
          · cases g
        obtain ⟨a1, vs, ws, p1, p3, p4, h4, hl, hm⟩ := R.dtH I gd
        rw [hj] at p1; cases p1
        obtain ⟨b', kk', rfl, rfl, q1, q2⟩ := key_at I ra ry el.1
        obtain ⟨kd, kd1, kd2, _⟩ := keyOk_some el.1
        rw [q1] at kd1; cases kd1
        have hz : (List.zipWith yz vs ws).length ≤ sizeLine := by rw [List.length_zipWith, hl, Nat.min_self]; exact p3.len
        have hroom0 : X.A.units + 8 < cLine := by have := hr.un; omega
        refine wpAny_dictSet_heap (hsz := hz) hroom0 q2 hm fun h2 dd hs => ?_
        obtain ⟨ws', z1, z2⟩ := zip_put (k := kk') (b := b') rz p3.nd h4
        have rk := p4.put q1 ra rb
        have fu : Fut X.K ρ H ρ (upd H Z (dtO Z (putN vs kk' b' z))) := Fut.updS hj nt
        have fr : ∀ x ∈ putN vs kk' b' z, nfree x.1 = true := fun x hx => let ⟨d, e, _⟩ := rk.mem x hx; nk_free e
        exact fin _ _ (d_write I mu hs (let ⟨q, _, _, hq, _⟩ := dd; ⟨q, hq⟩) (dt_obj z1 fr (by rw [z2]; exact dd))) (kk _ fu (R.set gj ko rfl hj nt ⟨_, upd_same, putN_ok p3 (by rw [← p4.len]; exact ltLen_iff.mp el.2) kd2, rk.fut fu⟩))
    · cases e
end

/-! ### the walk of a dict comprehension -/
/-- Z is the new dict -/
def tDcE (K : PySem.W.Frag) (G : Nat → Option Addr) (wi : TI) (g : TG) (tt : TT) (tk tv : TE) (vs : List Nat) : TE := fun σ H Q => wi σ H fun J H1 => ∀ Z, H1 Z = none → ∃ Wt : Nat → Nat → Hp → Prop, (∃ m, Wt 0 m (upd H1 Z (.dK []))) ∧ ∀ i m H2, Wt i m H2 →
  (J.stop i H2 ∧ Q (.ref Z) H2) ∨ (J.go i H2 ∧ ∃ Nx : Hp → Prop, (∀ H', Nx H' → ∃ m', m' < m ∧ Wt (i + 1) m' H') ∧ ∀ x H', J.yld i H2 x H' → g x (wipe σ vs) H' fun σ2 H3 => wipe σ2 vs = wipe σ vs ∧ tt σ2 H3 fun b H4 =>
    if b = true then tk σ2 H4 fun y H5 => tv σ2 H5 fun z H6 => rEnt K G Z y z H6 Nx else Nx H4)
section
variable {X : Cx} {G : Nat → Option Addr} {k : Nat}
theorem pe_dcE {kx vx tg iter : Expr} {ifs : List Expr} {scope : Scope} {own : List (Str × Nat)} {pos : Pos} {wi : TI} {g : TG} {tt : TT} {tk tv : TE} (hr : Room k X.A) (calm : X.calm = true) (nodup : X.N.Nodup) (walk : PI X tg iter wi) (blk : BlkOk X.N X.env.scope scope own)
    (oG : ∀ (s : Shared) (H : Hp) (C : Addr) (cl : List (Str × Addr)) (fp : List Addr), PG (X.blk s H scope (compEnvC scope cl C X.env) fp) tg g)
    (oT : ∀ (s : Shared) (H : Hp) (C : Addr) (cl : List (Str × Addr)) (fp : List Addr), PTs (X.blk s H scope (compEnvC scope cl C X.env) fp) ifs tt)
    (oK : ∀ (s : Shared) (H : Hp) (C : Addr) (cl : List (Str × Addr)) (fp : List Addr), PE (X.blk s H scope (compEnvC scope cl C X.env) fp) kx tk)
    (oV : ∀ (s : Shared) (H : Hp) (C : Addr) (cl : List (Str × Addr)) (fp : List Addr), PE (X.blk s H scope (compEnvC scope cl C X.env) fp) vx tv)
    (plain : ∀ x, foldedSetIterable iter X.env x = pure x := by intro _; rfl) :
    PE X (.DictComp kx vx [⟨tg, iter, ifs, 0⟩] scope pos) (tDcE X.K G wi g tt tk tv (own.map (·.2))) := by
  refine ⟨fun pins s σ H Q I want => ?_⟩
  rw [arm_eval_DictComp]
  have cells : ∀ y ∈ scope.names, y.2 = .free → ∃ c, X.env.cells.lookup y.1 = some c := fun y hy fr => (blk.free y hy fr).elim (fun z => I.ok.has _ (.inl z)) fun z => I.ok.has _ (.inr z)
  refine wpAny_comprehension_free (use := none) rfl plain (closure_ok cells) blk.kind (fun y hy loc => (blk.uniq y hy).trans (congrArg some loc)) ?_
  refine thn (walk.run pins s σ H _ I want) fun xv s1 ready => thn ready fun itv s2 more => ?_
  obtain ⟨it, fp, tn, J, H2, rfl, I2, T, tn2, apart, want2⟩ := more
  refine wpAny_newObj_type (newEnv_comp ?_)
  -- the dict and the block's own names
  obtain ⟨Z, hZ⟩ : ∃ Z, Z = s2.heap.objs.size := ⟨_, rfl⟩
  obtain ⟨Wt, ⟨m0, first⟩, turn⟩ := want2 Z (I2.hok.fresh (by rw [hZ]; exact Nat.le_refl _))
  obtain ⟨s3, hs3⟩ : ∃ t : Shared, t = { s2 with heap := s2.heap.push { cls := .type "dict", data := .dict #[] } } := ⟨_, rfl⟩
  obtain ⟨H3, hH3⟩ : ∃ Hn : Hp, Hn = upd H2 Z (.dK []) := ⟨_, rfl⟩
  have heap3 : s3.heap = s2.heap.push { cls := .type "dict", data := .dict #[] } := by rw [hs3]
  have I3 : Inv X pins σ H3 s3 := by
    subst hs3 hH3 hZ
    exact I2.laid (t' := s2.toks) (fun b o q => Heap.get?_push_of_some _ q) (Nat.le_refl _) (dk_empty s2.heap I2.big)
  have ok3 : ∀ b ∈ fp, FpOk X pins H3 b ∧ b < s3.heap.objs.size := fun b hb => by
    have lt2 : b < s2.heap.objs.size := by
      obtain ⟨ob, q, _⟩ := T.obj _ _ tn2 b hb
      exact Heap.lt_size q
    refine ⟨⟨?_, (apart b hb).2⟩, by rw [heap3, Heap.size_push]; exact Nat.lt_succ_of_lt lt2⟩
    rw [hH3, upd_ne (by rw [hZ]; exact Nat.ne_of_lt lt2)]
    exact (apart b hb).1
  have tn3 : tn 0 s3.heap := T.keep _ _ _ tn2 fun b _ ob q => by rw [heap3]; exact Heap.get?_push_of_some _ q
  have I4 := block_start I3 blk nodup ok3
  rw [← hs3, ← hZ]
  rw [← hH3] at first
  obtain ⟨ce, hce⟩ : ∃ c, c = compEnvC scope (cellsFrom (s3.heap.objs.size + 1) scope.names (cloFrom X.env.cells scope.names [])) s3.heap.objs.size X.env := ⟨_, rfl⟩
  have pG := oG s3 H3 s3.heap.objs.size (cellsFrom (s3.heap.objs.size + 1) scope.names (cloFrom X.env.cells scope.names [])) fp
  have pT := oT s3 H3 s3.heap.objs.size (cellsFrom (s3.heap.objs.size + 1) scope.names (cloFrom X.env.cells scope.names [])) fp
  have pK := oK s3 H3 s3.heap.objs.size (cellsFrom (s3.heap.objs.size + 1) scope.names (cloFrom X.env.cells scope.names [])) fp
  have pV := oV s3 H3 s3.heap.objs.size (cellsFrom (s3.heap.objs.size + 1) scope.names (cloFrom X.env.cells scope.names [])) fp
  rw [← hce] at I4 pG pT pK pV
  show codeAny (model X.prog X.w) X.A (.compStart (.DictComp kx vx [⟨tg, iter, ifs, 0⟩] scope pos) 0 (.ref it) (.ref Z) (compEnvC scope (cellsFrom (s3.heap.objs.size + 1) scope.names (cloFrom X.env.cells scope.names [])) s3.heap.objs.size X.env))
    (compPost (model X.prog X.w) X.A X.xe none (EP X pins σ Q) (.ref Z) s3.heap.objs.size) { s3 with heap := pushCells (s3.heap.push { cls := .type "dict", data := .dict #[] }) scope.names }
  rw [← hce]
  have at3 : ce.locals = s3.heap.objs.size := by rw [hce]; rfl
  obtain ⟨s4, hs4⟩ : ∃ t : Shared, t = { s3 with heap := pushCells (s3.heap.push { cls := .type "dict", data := .dict #[] }) scope.names } := ⟨_, rfl⟩
  rw [← hs4] at I4 ⊢
  have tn4 : tn 0 s4.heap := T.keep _ _ _ tn3 fun b _ ob q => by rw [hs4]; exact pushCells_keeps _ _ _ _ (Heap.get?_push_of_some _ q)
  have pin0 : ∀ {σ' : L2.St} {H' : Hp} {s' : Shared}, Inv (X.blk s3 H3 scope ce fp) [] σ' H' s' → (∀ b ∈ fp, H' b = none) → ∀ b ∈ fp, FpOk (X.blk s3 H3 scope ce fp) [] H' b := fun J' free b hb =>
    ⟨free b hb, (J'.ok.exf b hb).1, J'.ok.exfs b hb, .inl hb, fun x c q => (J'.ok.exf b hb).2 x c q, fun p hp => absurd (show p ∈ ([] : List (Addr × Obj)) ++ [] from hp) (by simp)⟩
  have walked : codeAny (model X.prog X.w) X.A (.compLoop (.DictComp kx vx [⟨tg, iter, ifs, 0⟩] scope pos) 0 (.ref it) (.ref Z) ce) (compPost (model X.prog X.w) X.A X.xe none (EP X pins σ Q) (.ref Z) s3.heap.objs.size) s4 := by
    refine compLoop_anyD (fun m s' => ∃ i H', Inv (X.blk s3 H3 scope ce fp) [] (wipe σ (own.map (·.2))) H' s' ∧ tn i s'.heap ∧ (∀ b ∈ fp, H' b = none) ∧ Wt i m H') ?_ m0 ⟨0, H3, I4, tn4, fun b hb => (ok3 b hb).1.1, first⟩
    rintro m s5 ⟨i, H5, I5, tn5, free5, at5⟩
    rcases turn i m H5 at5 with ⟨over, result⟩ | ⟨goes, Nx, back, step⟩
    · refine thnF (T.done (X.blk s3 H3 scope ce fp) rfl rfl rfl calm i [] s5 _ H5 (fun _ _ => False) I5 (pin0 I5 free5) tn5 over) fun r s6 ⟨none', I6⟩ => ?_
      subst none'
      have I7 : Inv X pins σ H5 s6 := I3.call' (ch := fp) I6.os I6.base I6.hok I6.bare fun b hb => let f := (ok3 b hb).1.2; ⟨f.2.2.1, f.1, f.2.2.2.1, f.2.2.2.2⟩
      have nC : H5 s3.heap.objs.size = none := by
        have z : H5 ce.locals = none := I6.free
        rwa [at3] at z
      obtain ⟨mm, ns, _⟩ := I6.loc
      have ns : s6.heap.Ns ce.locals mm := ns
      rw [at3] at ns
      obtain ⟨f0, f1, f2, f3, f4, f5⟩ := I3.fpOk (Nat.le_refl _) nC
      exact ⟨mm, ns, fun h'' sb => ⟨.ref Z, H5, I7.turned (t' := s6.toks) (fun b o hb q => (sb.2 b hb).trans q) f0 f1 f3 f4 f5, rfl, result⟩⟩
    · refine thnF (T.item (X.blk s3 H3 scope ce fp) rfl rfl rfl calm i [] s5 _ H5 (fun _ _ => False) I5 (pin0 I5 free5) tn5 goes) fun r s6 ⟨u, some', given⟩ => ?_
      subst some'
      refine thnF given fun _ s7 ⟨x, H7, I7, rx, yld, tn7, free7⟩ => ?_
      have I8 := I7.pinned (pin0 I7 free7) (T.obj _ _ tn7)
      refine thnF (pG.run _ s7 _ H7 x u _ I8 rx (step x H7 yld)) fun _ s8 ⟨σ8, H8, I9, same, q8⟩ => ?_
      refine thnF (pT.run _ s8 σ8 H8 _ I9 q8) fun b s9 ⟨H9, I10, q9⟩ => ?_
      have again : ∀ {s' : Shared} {H' : Hp}, Inv (X.blk s3 H3 scope ce fp) ([] ++ pinsAt fp s7.heap) σ8 H' s' → Nx H' → ∃ m2, m2 < m ∧ ∃ i H', Inv (X.blk s3 H3 scope ce fp) [] (wipe σ (own.map (·.2))) H' s' ∧ tn i s'.heap ∧ (∀ b ∈ fp, H' b = none) ∧ Wt i m2 H' := fun {s' H'} J' nx => by
        obtain ⟨m2, less, at6⟩ := back H' nx
        have held : ∀ b ∈ fp, ∀ o, s7.heap.get? b = some o → s'.heap.get? b = some o ∧ H' b = none := fun b hb o q =>
          let z := J'.pin (b, o) (List.mem_append_right _ (List.mem_append_right _ (mem_pinsAt hb q)))
          ⟨z.1, z.2.1⟩
        refine ⟨m2, less, i + 1, H', (J'.unpinned (pins := [])).weak (by rw [← same, wipe_length]) (fun j v q => ?_), T.keep _ _ _ tn7 fun b hb o q => (held b hb o q).1, fun b hb => ?_, at6⟩
        · rw [← same] at q
          exact (wipe_some q).1
        · obtain ⟨o, q, _⟩ := T.obj _ _ tn7 b hb
          exact (held b hb o q).2
      cases b with
      | false =>
        simp only [Bool.false_eq_true, if_false] at q9 ⊢
        exact again I10 q9
      | true =>
        simp only [if_true] at q9 ⊢
        refine thnF (pK.run _ s9 σ8 H9 _ I10 q9) fun z s10 ⟨yk, H10, I11, rk, q10⟩ => ?_
        refine thnF (pV.run _ s10 σ8 H10 _ I11 q10) fun z2 s11 ⟨yv, H11, I12, rv, q11⟩ => ?_
        exact ent_run (X := X.blk s3 H3 scope ce fp) (k := k) hr I12 rk rv q11 fun s12 H12 I13 nx => again I13 nx
  exact codeAny_compStart_dict walked (T.self X.A 0 _ _ _ tn4 walked)

/-! ### {k: v for t in iter if ..}, our function -/
def dcL (it : MI) (t : Tg) (tt : Mt) (tk tv : Mx) (env : ME) (Z : Nat) : Nat → Nat → MH → Option MH
  | 0, _, h => if it.fin h = true then some h else none
  | r + 1, k, h => match it.at h k with
    | none => none
    | some d => match asg h t d env with
      | none => none
      | some e1 => match tt e1 h with
        | .ok true h2 => match tk e1 h2 with
          | .ok y h3 => match tv e1 h3 with
            | .ok z h4 => match setE Z y z h4 with
              | some h5 => dcL it t tt tk tv env Z r (k + 1) h5
              | none => none
            | _ => none
          | _ => none
        | .ok false h2 => dcL it t tt tk tv env Z r (k + 1) h2
        | _ => none
def eDc (mi : Mi) (t : Tg) (tt : Mt) (tk tv : Mx) (own : List Nat) : Mx := fun env h => (mi env h).bind fun it h1 => match dcL it t tt tk tv (wipeE env own) h1.n it.n 0 (h1.add (.dct [])) with
  | some h2 => .ok (.ref h1.n) h2
  | none => .bad
end
section
variable {X : Cx} {G : Nat → Option Addr} {W : WX} {k : Nat} {pos : Pos}
theorem dc_rd {mi : Mi} {t : Tg} {tt : Mt} {tk tv : Mx} {own : List Nat} {σ : L2.St} {H : Hp} {Q : VK} (ho : ∀ i ∈ t.slots, i ∈ own) (q : RdE X.K G W (eDc mi t tt tk tv own) σ H Q) :
    tDcE X.K G (RdI X.K G W mi) (RdG X.K G t) (RdT X.K G W0 tt) (RdE X.K G W0 tk) (RdE X.K G W0 tv) own σ H Q := by
  obtain ⟨ρ, h, env, r, re, w⟩ := q
  refine ⟨ρ, h, env, r, re, Wp.bind w fun it h1 ρ0 H0 J f0 r0 q0 w0 => ?_⟩
  have re0 := (re.fut f0).wipe own
  intro Z nZ
  cases el : dcL it t tt tk tv (wipeE env own) h1.n it.n 0 (h1.add (.dct [])) with
  | none => rw [el] at w0; exact w0.elim
  | some hE =>
    rw [el] at w0
    have fN : Fut X.K ρ0 H0 (ρ0 ++ [Z]) (upd H0 Z (.dK [])) := Fut.upd nZ
    have rN : Rel X.K G (ρ0 ++ [Z]) (h1.add (.dct [])) (upd H0 Z (.dK [])) := r0.new (o := .dct []) nZ rfl ⟨[], upd_same, .nil⟩
    have atZ : ∀ {ρ H}, Fut X.K (ρ0 ++ [Z]) (upd H0 Z (.dK [])) ρ H → ρ[h1.n]? = some Z := fun f => f.at (by rw [← r0.len]; simp)
    refine ⟨fun i m H => m = it.n - i ∧ i ≤ it.n ∧ ∃ (ρ : List Addr) (h : MH), Fut X.K (ρ0 ++ [Z]) (upd H0 Z (.dK [])) ρ H ∧ Rel X.K G ρ h H ∧ dcL it t tt tk tv (wipeE env own) h1.n (it.n - i) i h = some hE,
      ⟨it.n, rfl, Nat.zero_le _, _, _, .refl, rN, el⟩, ?_⟩
    rintro i m H ⟨rfl, hi, ρ, h, f, r, el⟩
    obtain ⟨q1, q2⟩ := q0 i ρ h H (fN.trans f) r
    by_cases hlt : i < it.n
    · obtain ⟨rem, er⟩ : ∃ rem, it.n - i = rem + 1 := ⟨it.n - i - 1, by omega⟩
      rw [er, dcL] at el
      split at el
      · cases el
      · rename_i d ed
        split at el
        · cases el
        · rename_i e1 ea
          obtain ⟨hgo, hy⟩ := q1 d hlt ed
          refine .inr ⟨hgo, fun H' => ∃ (ρ : List Addr) (h : MH), Fut X.K (ρ0 ++ [Z]) (upd H0 Z (.dK [])) ρ H' ∧ Rel X.K G ρ h H' ∧ dcL it t tt tk tv (wipeE env own) h1.n rem (i + 1) h = some hE, fun H' p => ?_, fun x H' y => ?_⟩
          · obtain ⟨ρ', h', g1, g2, g3⟩ := p
            exact ⟨it.n - (i + 1), by omega, rfl, by omega, ρ', h', g1, g2, by rw [show it.n - (i + 1) = rem by omega]; exact g3⟩
          · obtain ⟨f1, r1, rd⟩ := hy x H' y
            refine ⟨ρ, h, wipeE env own, d, e1, r1, re0.fut ((fN.trans f).trans f1), rd, ea, fun σ2 re2 wp => ⟨?_, ρ, h, e1, r1, re2, ?_⟩⟩
            · rw [wp own ho]
              exact wipe_wipe own σ
            · cases eb : tt e1 h with
              | exc C fs h2 => rw [eb] at el; cases el
              | bad => rw [eb] at el; cases el
              | ok k h2 =>
                intro ρ3 H3 b f3 r3 q3
                subst q3
                cases k with
                | false =>
                  rw [eb] at el
                  exact ⟨ρ3, h2, (f.trans f1).trans f3, r3, el⟩
                | true =>
                  rw [eb] at el
                  refine ⟨ρ3, h2, e1, r3, re2.fut f3, ?_⟩
                  cases ex : tk e1 h2 with
                  | exc C fs h2 => simp only [ex] at el; cases el
                  | bad => simp only [ex] at el; cases el
                  | ok yk h3 =>
                    simp only [ex] at el
                    intro ρ4 H4 vy f4 r4 q4
                    refine ⟨ρ4, h3, e1, r4, (re2.fut f3).fut f4, ?_⟩
                    cases ev : tv e1 h3 with
                    | exc C fs h2 => simp only [ev] at el; cases el
                    | bad => simp only [ev] at el; cases el
                    | ok yv h4 =>
                      simp only [ev] at el
                      intro ρ5 H5 vz f5 r5 q5
                      have fA := (((f.trans f1).trans f3).trans f4).trans f5
                      cases es : setE h1.n yk yv h4 with
                      | none => simp only [es] at el; cases el
                      | some h5 =>
                        simp only [es] at el
                        exact ⟨ρ5, h4, h1.n, yk, yv, h5, r5, atZ fA, q4.fut f5, q5, es, fun H' fu r' => ⟨ρ5, h5, fA.trans fu, r', el⟩⟩
    · have e : i = it.n := by omega
      subst e
      rw [Nat.sub_self, dcL] at el
      split at el
      · rename_i ef
        cases el
        exact .inl ⟨q2 ef, w0 _ _ _ (fN.trans f) r (.ref (atZ f))⟩
      · cases el
theorem me_dc {kx vx tg iter : Expr} {ifs : List Expr} {scope : Scope} {own : List (Str × Nat)} {mi : Mi} {t : Tg} {tt : Mt} {tk tv : Mx} (hr : Room k X.A) (hc : X.calm = true) (hN : X.N.Nodup) (hi : PI X tg iter (RdI X.K G W mi)) (ok : BlkOk X.N X.env.scope scope own) (ho : ∀ i ∈ t.slots, i ∈ own.map (·.2))
    (hg : ∀ (s : Shared) (H : Hp) (C : Addr) (cl : List (Str × Addr)) (fp : List Addr), PG (X.blk s H scope (compEnvC scope cl C X.env) fp) tg (RdG X.K G t)) (ht : ∀ (s : Shared) (H : Hp) (C : Addr) (cl : List (Str × Addr)) (fp : List Addr), PTs (X.blk s H scope (compEnvC scope cl C X.env) fp) ifs (RdT X.K G W0 tt))
    (hk : ∀ (s : Shared) (H : Hp) (C : Addr) (cl : List (Str × Addr)) (fp : List Addr), PE (X.blk s H scope (compEnvC scope cl C X.env) fp) kx (RdE X.K G W0 tk))
    (hv : ∀ (s : Shared) (H : Hp) (C : Addr) (cl : List (Str × Addr)) (fp : List Addr), PE (X.blk s H scope (compEnvC scope cl C X.env) fp) vx (RdE X.K G W0 tv)) (hs : ∀ x, foldedSetIterable iter X.env x = pure x := by intro _; rfl) :
    PE X (.DictComp kx vx [⟨tg, iter, ifs, 0⟩] scope pos) (RdE X.K G W (eDc mi t tt tk tv (own.map (·.2)))) := PE.imp (pe_dcE (G := G) hr hc hN hi ok hg ht hk hv hs) fun σ H Q q => dc_rd ho q
end
end MM

set_option Elab.async false
set_option linter.all false
set_option maxRecDepth 100000
set_option maxHeartbeats 4000000
set_option autoImplicit false
/-! index; methods of built-in things in general -/
namespace MM
open PySem PySem.Spec PyProof.Rows L2

def idxF (y : D) : List D → Nat → Option Nat
  | [], _ => none
  | x :: xs, n => bif eqV (toV x) (toV y) then some n else idxF y xs (n + 1)
theorem idxF_spec {y : D} : ∀ {xs : List D} {n j : Nat}, idxF y xs n = some j → n ≤ j ∧ (∃ z, xs[j - n]? = some z ∧ eqV (toV z) (toV y) = true) ∧ ∀ (m : Nat) (z : D), m < j - n → xs[m]? = some z → eqV (toV z) (toV y) = false
  | [], n, j, e => by cases e
  | x :: xs, n, j, e => by
    unfold idxF at e
    cases q : eqV (toV x) (toV y) with
    | true =>
      rw [q] at e; cases e
      exact ⟨Nat.le_refl _, ⟨x, by simp, q⟩, fun m z hm => by omega⟩
    | false =>
      rw [q] at e
      obtain ⟨h1, ⟨z, h2, h3⟩, h4⟩ := idxF_spec e
      refine ⟨by omega, ⟨z, ?_, h3⟩, fun m z' hm ez => ?_⟩
      · rw [show j - n = (j - (n + 1)) + 1 by omega, List.getElem?_cons_succ]; exact h2
      · cases m with
        | zero => simp at ez; subst ez; exact q
        | succ m => exact h4 m z' (by omega) (by simpa using ez)
def indexT (x : D) (ds : List D) (h : MH) : Option (D × MH) := match x, ds with
  | .tup xs, [y] => bif flatD y && xs.all flatD then (idxF y xs 0).map fun (n : Nat) => (.int (n : Int), h) else none
  | _, _ => none
def indexL (x : D) (ds : List D) (h : MH) : Option (D × MH) := match x, ds with
  | .ref i, [y] => match h.seq i with
    | some xs => bif flatD y && xs.all flatD then (idxF y xs 0).map fun (n : Nat) => (.int (n : Int), h) else none
    | none => none
  | _, _ => none
/-- a method of a built-in thing, by values -/
def rMt (K : PySem.W.Frag) (G : Nat → Option Addr) (f : D → List D → MH → Option (D × MH)) : V → List V → Hp → VK → Prop := fun x xs H Q => ∃ (ρ : List Addr) (h : MH) (a : D) (ds : List D) (v : D) (h' : MH), Rel K G ρ h H ∧ RD K G ρ H a x ∧ RDs K G ρ H ds xs ∧ f a ds h = some (v, h') ∧
  ∀ (ρ' : List Addr) (H' : Hp) (v' : V), Fut K ρ H ρ' H' → Rel K G ρ' h' H' → RD K G ρ' H' v v' → Q v' H'
/-- the receiver's class -/
def tyM (T : String) (x : D) (h : MH) : Bool := match x with
  | .ref i => match h.get i with
    | some (.lst _) => T == "list"
    | some (.ro _) => T == "list"
    | _ => false
  | .str _ => T == "str"
  | _ => false
def eMtT (T : String) (f : D → List D → MH → Option (D × MH)) (m : Mx) (ms : Ma) : Mx := fun env h => (m env h).bind fun x h1 => bif tyM T x h1 then (ms env h1).bind fun ds h2 => ofOpt (f x ds h2) else .bad
section
variable {X : Cx} {G : Nat → Option Addr} {W : WX} {o e : Expr} {es : List Expr}
theorem tyM_ok {T : String} {x : D} {h1 : MH} {ρ1 : List Addr} {H1 : Hp} {vx : V} (r1 : Rel X.K G ρ1 h1 H1) (q1 : RD X.K G ρ1 H1 x vx) (et : tyM T x h1 = true) : tyV X.K T vx H1 := by
  unfold tyM at et
  split at et
  · split at et
    · rename_i g
      have : T = "list" := by simpa using et
      obtain ⟨a1, ys, p1, p2, p3⟩ := r1.lst g
      cases q1 with
      | ref ha => rw [ha] at p1; cases p1; exact .inl ⟨this, _, .of p2⟩
    · rename_i g
      have : T = "list" := by simpa using et
      obtain ⟨a1, p1, ob, ys, p2, p3⟩ := r1.ob _ _ g
      cases q1 with
      | ref ha => rw [ha] at p1; cases p1; exact .inl ⟨this, _, .inl (.inr ⟨_, p2⟩)⟩
    · cases et
  · cases q1
    have : T = "str" := by simpa using et
    exact this
  · cases et
theorem mt_rd {T : String} {f : D → List D → MH → Option (D × MH)} {m : Mx} {ms : Ma} {σ : L2.St} {H : Hp} {Q : VK} (q : RdE X.K G W (eMtT T f m ms) σ H Q) : tBM X.K T (rMt X.K G f) (RdE X.K G W m) (RdA X.K G W ms) σ H Q := by
  obtain ⟨ρ, h, env, r, re, w⟩ := q
  refine ⟨ρ, h, env, r, re, Wp.bind w fun x h1 ρ1 H1 vx f1 r1 q1 w1 => ?_⟩
  cases et : tyM T x h1 with
  | false => rw [et] at w1; exact w1.elim
  | true =>
    rw [et] at w1
    refine ⟨tyM_ok r1 q1 et, ρ1, h1, env, r1, re.fut f1, Wp.bind w1 fun ds h2 ρ2 H2 vs f2 r2 q2 w2 => ?_⟩
    obtain ⟨v, h', ea, k⟩ := w2.opt
    exact ⟨ρ2, h2, x, ds, v, h', r2, q1.fut f2, q2, ea, k⟩
theorem mt_rd0 {T : String} {f : D → List D → MH → Option (D × MH)} {m : Mx} {σ : L2.St} {H : Hp} {Q : VK} (q : RdE X.K G W (eMtT T f m aNil) σ H Q) : tBM0 X.K T (rMt X.K G f) (RdE X.K G W m) σ H Q := by
  obtain ⟨ρ, h, env, r, re, w⟩ := q
  refine ⟨ρ, h, env, r, re, Wp.bind w fun x h1 ρ1 H1 vx f1 r1 q1 w1 => ?_⟩
  cases et : tyM T x h1 with
  | false => rw [et] at w1; exact w1.elim
  | true =>
    rw [et] at w1
    refine ⟨tyM_ok r1 q1 et, ?_⟩
    obtain ⟨v, h', ea, k⟩ := Wp.opt (r := f x [] h1) w1
    exact ⟨ρ1, h1, x, [], v, h', r1, q1, .nil, ea, k⟩
theorem flats_nth {K : PySem.W.Frag} {ρ : List Addr} {H : Hp} {ds : List D} {xs : List V} (r : RDs K G ρ H ds xs) (f : ds.all flatD = true) {j : Nat} {z : V} (e : xs[j]? = some z) : ∃ d, ds[j]? = some d ∧ z = toV d := by
  obtain ⟨h1, _⟩ := flats_v r f
  subst h1
  rw [List.getElem?_map, Option.map_eq_some_iff] at e
  obtain ⟨d, e1, rfl⟩ := e
  exact ⟨d, e1, rfl⟩
theorem mt_idxL : MtR X "list.index" (rMt X.K G indexL) := by
  intro pins s σ H x xs v us Q I rx rxs q
  obtain ⟨ρ, h, a, ds, w, h', R, ra, rs, e, k⟩ := q
  unfold indexL at e
  split at e
  · rename_i i y
    split at e
    · rename_i zs g
      cases ef : flatD y && zs.all flatD with
      | false => rw [ef] at e; cases e
      | true =>
        rw [ef, cond_true, Option.map_eq_some_iff] at e
        obtain ⟨(j : Nat), e, e'⟩ := e
        cases e'
        rw [Bool.and_eq_true] at ef
        obtain ⟨a1, ys, p1, p2, p3⟩ := R.seq g
        cases rs with
        | cons r1 r2 =>
          cases r2
          obtain ⟨rfl, fy⟩ := flat_v r1 ef.1
          obtain ⟨h1, h2⟩ := flats_v p3 ef.2
          cases ra with
          | ref ha =>
            rw [ha] at p1; cases p1
            obtain ⟨_, ⟨z, z1, z2⟩, z3⟩ := idxF_spec e
            rw [Nat.sub_zero] at z1 z3
            obtain ⟨vz, z4, z5⟩ := p3.get z1
            have z6 : vz = toV z := by
              rw [h1, List.getElem?_map, z1] at z4; cases z4; rfl
            refine mt_index pins s σ H _ _ v us Q I rx rxs ⟨_, ys, _, j, vz, rfl, rfl, p2, fy, h2, z4, by rw [z6]; exact z2, fun m z' hm ez => ?_, k ρ H _ .refl R (.int _)⟩
            obtain ⟨d, d1, rfl⟩ := flats_nth p3 ef.2 ez
            exact z3 m d hm d1
    · cases e
  · cases e
theorem mt_idxT : MtR X "tuple.index" (rMt X.K G indexT) := by
  intro pins s σ H x xs v us Q I rx rxs q
  obtain ⟨ρ, h, a, ds, w, h', R, ra, rs, e, k⟩ := q
  unfold indexT at e
  split at e
  · rename_i zs y
    cases ef : flatD y && zs.all flatD with
    | false => rw [ef] at e; cases e
    | true =>
      rw [ef, cond_true, Option.map_eq_some_iff] at e
      obtain ⟨(j : Nat), e, e'⟩ := e
      cases e'
      rw [Bool.and_eq_true] at ef
      cases rs with
      | cons r1 r2 =>
        cases r2
        obtain ⟨rfl, fy⟩ := flat_v r1 ef.1
        cases ra with
        | @tup p ds' ys sa da =>
          obtain ⟨h1, h2⟩ := flats_v da ef.2
          obtain ⟨_, ⟨z, z1, z2⟩, z3⟩ := idxF_spec e
          rw [Nat.sub_zero] at z1 z3
          cases rx
          obtain ⟨uy, rfl, ry⟩ := vals1 rxs
          obtain ⟨its, rv, pl, hz⟩ := I.tuple sa
          obtain ⟨⟨cls, dd, dt, sl⟩, ho, hc, n, hd⟩ := pl
          simp only at hc hd
          subst hc
          subst hd
          have hyl := rv.length
          have hj : j < its.toArray.size := by
            rw [List.size_toArray, ← hyl, ← da.length]
            exact (List.getElem?_eq_some_iff.mp z1).1
          have look : ∀ (m : Nat) (hm : m < its.toArray.size), ∃ d, zs[m]? = some d ∧ eqU (toV y) its.toArray[m] = eqV (toV d) (toV y) := fun m hm => by
            have hm' : m < zs.length := by rw [da.length, hyl]; simpa using hm
            obtain ⟨vz, q1, q2⟩ := da.get (List.getElem?_eq_getElem hm')
            obtain ⟨u2, q3, q4⟩ := rv.get q1
            obtain ⟨_, q5⟩ := List.getElem?_eq_some_iff.mp q3
            have q6 : vz = toV zs[m] := (flat_v q2 (List.all_eq_true.mp ef.2 _ (List.getElem_mem hm'))).1
            refine ⟨zs[m], List.getElem?_eq_getElem hm', ?_⟩
            have q7 : its.toArray[m] = u2 := by simpa using q5
            rw [q7, ← q6]
            exact eqU_of q4 (by rw [q6]; exact (flat_v q2 (List.all_eq_true.mp ef.2 _ (List.getElem_mem hm'))).2 |> fun z => by rw [← q6]; exact z)
          refine call_meets PySem.F.slot_tuple_index ⟨_, ho, rfl⟩ PySem.F.entry_tuple_index (PySem.F.args_tuple_index_2 _ _) (TI.tuple_indexAt p its.toArray n dd sl uy (eqU (toV y)) j hj ?_ ?_)
            ⟨ho, fun w hw => mem_eqAt ry fy rv h2 w (by simpa using hw), ⟨.int (j : Nat), H, I.tok _, ⟨_, rfl⟩, k ρ H _ .refl R (.int _)⟩⟩
          · obtain ⟨d, d1, d2⟩ := look j hj
            rw [d2]
            rw [z1] at d1; cases d1
            exact z2
          · intro m hm hmj
            obtain ⟨d, d1, d2⟩ := look m hm
            rw [d2]
            exact z3 m d hmj d1
  · cases e
end
/-! ### a comprehension in a comprehension -/
def relS (scope sc : Scope) : Scope := { scope with names := scope.names.map fun (n, k) => if (k == .free && sc.kind == .function && sc.names.lookup n == some .cell) then (n, .cell) else (n, k) }
theorem blkOk_rel {N : List Str} {scope sc scope' : Scope} {own : List (Str × Nat)} {cl : List (Str × Addr)} {C : Addr} {env : Env} (hs : env.scope = sc) (h : blkC N (relS scope sc) scope' own = true) : BlkOk N (compEnvC scope cl C env).scope scope' own := by
  have e : (compEnvC scope cl C env).scope = relS scope sc := by subst hs; rfl
  rw [e]
  exact blkOk_by h
/-! ### ranges: with a step; as a list, as a tuple -/
def iRng3M (ms : Ma) : Mi := fun env h => (ms env h).bind fun vs h1 => match vs with
  | [.int i, .int j, .int c] => bif !(decide (c = 0)) && Nat.blt c.natAbs 1073741824 && Builtin.Range.small i j c && decide (0 ≤ Builtin.Range.rangeSize i j c) then .ok (.rngc i c (Builtin.Range.rangeSize i j c).toNat) h1 else .bad
  | _ => .bad
def rgD (a b : Int) : List D := (List.range (b - a).toNat).map fun i => D.int (a + (i : Nat))
def rgOk (a b : Int) : Bool := decide (-(2 ^ 62) ≤ a) && decide (a < 2 ^ 62) && decide (-(2 ^ 62) ≤ b) && decide (b < 2 ^ 62) && Nat.ble (b - a).toNat 16777216
def rgPair : List D → Option (Int × Int)
  | [.int n] => some (0, n)
  | [.int a, .int b] => some (a, b)
  | _ => none
def lstRg (ds : List D) (h : MH) : Option (D × MH) := match rgPair ds with
  | some (a, b) => bif rgOk a b then some (.ref h.n, h.add (.lst (rgD a b))) else none
  | none => none
def tupRg (ds : List D) (h : MH) : Option (D × MH) := match rgPair ds with
  | some (a, b) => bif rgOk a b then some (.tup (rgD a b), h) else none
  | none => none
section
variable {X : Cx} {G : Nat → Option Addr} {W : WX} {e a b c tg : Expr} {pos p p2 pos' : Pos}
theorem rit_rngc {K : PySem.W.Frag} {ρ0 : List Addr} {H0 : Hp} {lo c : Int} {n : Nat} : RIt K G ρ0 H0 (.rngc lo c n) (Itc lo c n) := by
  intro k ρ h H f R
  refine ⟨fun d hk ed => ⟨hk, fun x H' hy => ?_⟩, fun _ => Nat.le_refl _⟩
  obtain ⟨rfl, rfl⟩ := hy
  cases ed
  exact ⟨.refl, R, .int _⟩
theorem mi_rng3 {ms : Ma} (hg : Gl X "range") (hm : X.mg "range" = none) (ha : PA X [a, b, c] (RdA X.K G W ms)) (hs : starEach [a, b, c] X.env = (false, eval a X.env) :: starEach [b, c] X.env := by rfl) (hpl : (backTo pos (starEach [b, c] X.env)).any (·.1) = false := by rfl) :
    PI X tg (.Call (.Name "range" p) [a, b, c] [] pos) (RdI X.K G W (iRng3M ms)) := by
  refine PI.imp (pi_range3 hg hm ha hs hpl) fun σ H Q q => ?_
  obtain ⟨ρ, h, env, r, re, w⟩ := q
  refine ⟨ρ, h, env, r, re, Wp.bind w fun vs h1 ρ1 H1 us f1 r1 q1 w1 => ?_⟩
  split at w1
  · rename_i i j c
    cases ec : !(decide (c = 0)) && Nat.blt c.natAbs 1073741824 && Builtin.Range.small i j c && decide (0 ≤ Builtin.Range.rangeSize i j c) with
    | false => rw [ec] at w1; exact w1.elim
    | true =>
      rw [ec] at w1
      simp only [Bool.and_eq_true, Bool.not_eq_true', decide_eq_false_iff_not, decide_eq_true_eq] at ec
      obtain ⟨⟨⟨c1, c2⟩, c3⟩, c4⟩ := ec
      cases q1 with
      | cons a1 b1 =>
        cases b1 with
        | cons a2 b2 =>
          cases b2 with
          | cons a3 b3 =>
            cases b3; cases a1; cases a2; cases a3
            exact ⟨i, j, c, _, rfl, ⟨c1, Nat.le_of_ble_eq_true c2, c3, (Int.toNat_of_nonneg c4).symm⟩, w1.ret r1 rit_rngc⟩
  · exact w1.elim
theorem rg_rd {K : PySem.W.Frag} {ρ : List Addr} {H : Hp} (a b : Int) : RDs K G ρ H (rgD a b) (rgV a b) := by
  unfold rgD rgV
  induction List.range (b - a).toNat with
  | nil => exact .nil
  | cons x xs ih => exact .cons (.int _) ih
theorem rgOk_ok {a b : Int} (h : rgOk a b = true) : RgOk a b := by
  unfold rgOk at h
  simp only [Bool.and_eq_true, decide_eq_true_eq] at h
  obtain ⟨⟨⟨⟨h1, h2⟩, h3⟩, h4⟩, h5⟩ := h
  exact ⟨h1, h2, h3, h4, Nat.le_of_ble_eq_true h5⟩
def eRg1 (f : List D → MH → Option (D × MH)) (ma : Mx) : Mx := fun env h => (ma env h).bind fun x h1 => ofOpt (f [x] h1)
def eRg2 (f : List D → MH → Option (D × MH)) (ma mb : Mx) : Mx := fun env h => (ma env h).bind fun x h1 => (mb env h1).bind fun y h2 => ofOpt (f [x, y] h2)
theorem me_listRg1 {ma : Mx} (hc : X.calm = true) (hg : Gl X "list") (hm : X.mg "list" = none) (hg2 : Gl X "range") (hm2 : X.mg "range" = none) (ha : PE X a (RdE X.K G W ma)) (na : starEach [a] X.env = (false, eval a X.env) :: starEach [] X.env := by rfl)
    (nb : starEach [.Call (.Name "range" p2) [a] [] pos] X.env = (false, eval (.Call (.Name "range" p2) [a] [] pos) X.env) :: starEach [] X.env := by rfl) : PE X (.Call (.Name "list" p) [.Call (.Name "range" p2) [a] [] pos] [] pos') (RdE X.K G W (eRg1 lstRg ma)) := by
  refine PE.imp (pe_listRg hc hg hm (prg_1 hg2 hm2 ha na) nb) fun σ H Q q => ?_
  obtain ⟨ρ, h, env, r, re, w⟩ := q
  refine ⟨ρ, h, env, r, re, Wp.bind w fun x h1 ρ1 H1 vx f1 r1 q1 w1 => ?_⟩
  obtain ⟨v, h', ee, k⟩ := w1.opt
  cases q1 with
  | int n =>
    simp only [lstRg, rgPair] at ee
    cases eo : rgOk 0 n with
    | false => rw [eo] at ee; cases ee
    | true =>
      rw [eo] at ee; cases ee
      refine ⟨n, rfl, rgOk_ok eo, fun q hq => ?_⟩
      obtain ⟨f2, r2, q2⟩ := new_lst r1 hq (rg_rd 0 n)
      exact k _ _ _ f2 r2 q2
  | _ => simp only [lstRg, rgPair] at ee; cases ee
theorem me_listRg2 {ma mb : Mx} (hc : X.calm = true) (hg : Gl X "list") (hm : X.mg "list" = none) (hg2 : Gl X "range") (hm2 : X.mg "range" = none) (ha : PE X a (RdE X.K G W ma)) (hb : PE X b (RdE X.K G W mb)) (na : starEach [a, b] X.env = (false, eval a X.env) :: starEach [b] X.env := by rfl)
    (na' : starEach [b] X.env = (false, eval b X.env) :: starEach [] X.env := by rfl) (hp : (backTo pos (starEach [b] X.env)).any (·.1) = false := by rfl)
    (nb : starEach [.Call (.Name "range" p2) [a, b] [] pos] X.env = (false, eval (.Call (.Name "range" p2) [a, b] [] pos) X.env) :: starEach [] X.env := by rfl) : PE X (.Call (.Name "list" p) [.Call (.Name "range" p2) [a, b] [] pos] [] pos') (RdE X.K G W (eRg2 lstRg ma mb)) := by
  refine PE.imp (pe_listRg hc hg hm (prg_2 hg2 hm2 ha hb na na' hp) nb) fun σ H Q q => ?_
  obtain ⟨ρ, h, env, r, re, w⟩ := q
  refine ⟨ρ, h, env, r, re, Wp.bind w fun x h1 ρ1 H1 vx f1 r1 q1 w1 => ?_⟩
  refine ⟨ρ1, h1, env, r1, re.fut f1, Wp.bind w1 fun y h2 ρ2 H2 vy f2 r2 q2 w2 => ?_⟩
  obtain ⟨v, h', ee, k⟩ := w2.opt
  cases q1 with
  | int n =>
    cases q2 with
    | int m =>
      simp only [lstRg, rgPair] at ee
      cases eo : rgOk n m with
      | false => rw [eo] at ee; cases ee
      | true =>
        rw [eo] at ee; cases ee
        refine ⟨n, m, rfl, rfl, rgOk_ok eo, fun q hq => ?_⟩
        obtain ⟨f3, r3, q3⟩ := new_lst r2 hq (rg_rd n m)
        exact k _ _ _ f3 r3 q3
    | _ => simp only [lstRg, rgPair] at ee; cases ee
  | _ => simp only [lstRg, rgPair] at ee; cases ee
theorem me_tupRg1 {ma : Mx} (hc : X.calm = true) (hg : Gl X "tuple") (hm : X.mg "tuple" = none) (hg2 : Gl X "range") (hm2 : X.mg "range" = none) (ha : PE X a (RdE X.K G W ma)) (na : starEach [a] X.env = (false, eval a X.env) :: starEach [] X.env := by rfl)
    (nb : starEach [.Call (.Name "range" p2) [a] [] pos] X.env = (false, eval (.Call (.Name "range" p2) [a] [] pos) X.env) :: starEach [] X.env := by rfl) : PE X (.Call (.Name "tuple" p) [.Call (.Name "range" p2) [a] [] pos] [] pos') (RdE X.K G W (eRg1 tupRg ma)) := by
  refine PE.imp (pe_tupRg hc hg hm (prg_1 hg2 hm2 ha na) nb) fun σ H Q q => ?_
  obtain ⟨ρ, h, env, r, re, w⟩ := q
  refine ⟨ρ, h, env, r, re, Wp.bind w fun x h1 ρ1 H1 vx f1 r1 q1 w1 => ?_⟩
  obtain ⟨v, h', ee, k⟩ := w1.opt
  cases q1 with
  | int n =>
    simp only [tupRg, rgPair] at ee
    cases eo : rgOk 0 n with
    | false => rw [eo] at ee; cases ee
    | true =>
      rw [eo] at ee; cases ee
      refine ⟨n, rfl, rgOk_ok eo, fun q hq => ?_⟩
      obtain ⟨f2, r2, q2⟩ := new_tup r1 hq (rg_rd 0 n)
      exact k _ _ _ f2 r2 q2
  | _ => simp only [tupRg, rgPair] at ee; cases ee
theorem me_tupRg2 {ma mb : Mx} (hc : X.calm = true) (hg : Gl X "tuple") (hm : X.mg "tuple" = none) (hg2 : Gl X "range") (hm2 : X.mg "range" = none) (ha : PE X a (RdE X.K G W ma)) (hb : PE X b (RdE X.K G W mb)) (na : starEach [a, b] X.env = (false, eval a X.env) :: starEach [b] X.env := by rfl)
    (na' : starEach [b] X.env = (false, eval b X.env) :: starEach [] X.env := by rfl) (hp : (backTo pos (starEach [b] X.env)).any (·.1) = false := by rfl)
    (nb : starEach [.Call (.Name "range" p2) [a, b] [] pos] X.env = (false, eval (.Call (.Name "range" p2) [a, b] [] pos) X.env) :: starEach [] X.env := by rfl) : PE X (.Call (.Name "tuple" p) [.Call (.Name "range" p2) [a, b] [] pos] [] pos') (RdE X.K G W (eRg2 tupRg ma mb)) := by
  refine PE.imp (pe_tupRg hc hg hm (prg_2 hg2 hm2 ha hb na na' hp) nb) fun σ H Q q => ?_
  obtain ⟨ρ, h, env, r, re, w⟩ := q
  refine ⟨ρ, h, env, r, re, Wp.bind w fun x h1 ρ1 H1 vx f1 r1 q1 w1 => ?_⟩
  refine ⟨ρ1, h1, env, r1, re.fut f1, Wp.bind w1 fun y h2 ρ2 H2 vy f2 r2 q2 w2 => ?_⟩
  obtain ⟨v, h', ee, k⟩ := w2.opt
  cases q1 with
  | int n =>
    cases q2 with
    | int m =>
      simp only [tupRg, rgPair] at ee
      cases eo : rgOk n m with
      | false => rw [eo] at ee; cases ee
      | true =>
        rw [eo] at ee; cases ee
        refine ⟨n, m, rfl, rfl, rgOk_ok eo, fun q hq => ?_⟩
        obtain ⟨f3, r3, q3⟩ := new_tup r2 hq (rg_rd n m)
        exact k _ _ _ f3 r3 q3
    | _ => simp only [tupRg, rgPair] at ee; cases ee
  | _ => simp only [tupRg, rgPair] at ee; cases ee
end
/-- the dict that an expression without effects gives -/
def lkM (m : Mx) : ME → MH → List Nat := fun env h => match m env h with
  | .ok (.ref j) _ => [j]
  | _ => []
/-! ### isinstance: dicts too; own classes -/
def tyA (h : MH) (x : D) : Option Ty := match tyOf h x with
  | some t => some t
  | none => match x with
    | .ref i => match h.get i with
      | some (.dct _) => some .dict
      | some (.rct _) => some .dict
      | some (.dt _) => some .dict
      | some (.rdt _) => some .dict
      | _ => none
    | _ => none
def isiA (ds : List D) (h : MH) : Option (D × MH) := match ds with
  | [x, .ty t] => (tyA h x).map fun u => (.bl (subT u t), h)
  | _ => none
def isCF (C : Nat) (x : D) (h : MH) : Option (D × MH) := match x with
  | .ref i => match h.get i with
    | some (.ins E _) => bif Nat.beq E C then some (.bl true, h) else none
    | _ => (tyA h x).map fun _ => (.bl false, h)
  | x => (tyA h x).map fun _ => (.bl false, h)
theorem ty_ref {n : String} {c : Addr} : ¬ (Value.type n == Value.ref c) = true := fun h => by simp at h
structure IsC (K : PySem.W.Frag) (c : Addr) : Prop where
  ha : PySem.W.findIn K (.ref c) "__class__" = some (some (.builtin "object.__class__"))
  hn : PySem.W.specialIn K (.builtin "object.__class__") "__get__" = some (some (.builtin "getset_descriptor.__get__"))
  ht : PySem.W.takesIn K (.builtin "object.__class__") = some true
  hm : PySem.W.mroIn K c (.type "object") = some true
  no : ∀ t : Ty, PySem.W.kitOne K (.type t.name) (.ref c) = some false
section
variable {X : Cx} {G : Nat → Option Addr} {W : WX} {pins : List (Addr × Obj)} {σ : L2.St} {H : Hp} {s : Shared} {ρ : List Addr} {e : Expr}
theorem kit_any {h : MH} {d : D} {v : V} {u : Value} {t : Ty} (I : Inv X pins σ H s) (R : Rel X.K G ρ h H) (r : RD X.K G ρ H d v) (ru : RelV v u) (e : tyA h d = some t) :
    ∃ P : Heap → Prop, PySem.W.KitX X.K u (.type t.name) P ∧ P s.heap ∧ u ≠ .builtin "__main__.__loader__#opaque" := by
  unfold tyA at e
  split at e
  · rename_i t' et
    cases e
    exact kit_of I ru (tyOf_ok R r et)
  · split at e
    · rename_i i _
      split at e
      · rename_i kvs g
        cases e
        obtain ⟨a, e1, vs, e2, _⟩ := R.ob _ _ g
        cases r with
        | ref ha => rw [ha] at e1; cases e1; exact kit_of I ru (.base (.dK e2))
      · rename_i kvs g
        cases e
        obtain ⟨a, e1, o, vs, e2, _⟩ := R.ob _ _ g
        cases r with
        | ref ha => rw [ha] at e1; cases e1; exact kit_of I ru (.fDict e2)
      · rename_i kvs g
        cases e
        obtain ⟨a, e1, vs, e2, e3, _⟩ := R.ob _ _ g
        cases r with
        | ref ha =>
          rw [ha] at e1; cases e1
          cases (show u = Value.ref _ from ru)
          obtain ⟨⟨o, es, ep, ws, h1, h2, _⟩, _⟩ := (show ObjOk X.prog X.w H s.heap _ (dtO _ vs) from I.hok _ _ e2)
          exact ⟨_, PySem.W.kitx_dict, ⟨o, h1, h2.1⟩, fun z => nomatch z⟩
      · rename_i kvs g
        cases e
        obtain ⟨a, e1, ob, vs, e2, e3, _⟩ := R.ob _ _ g
        cases r with
        | ref ha =>
          rw [ha] at e1; cases e1
          cases (show u = Value.ref _ from ru)
          obtain ⟨_, ⟨o, es, ep, ws, h1, h2, _⟩, _⟩ := (show ObjOk X.prog X.w H s.heap _ (.frz ob (dtO _ vs)) from I.hok _ _ e2)
          exact ⟨_, PySem.W.kitx_dict, ⟨o, h1, h2.1⟩, fun z => nomatch z⟩
      · cases e
    · cases e
theorem ok_isiA : CallOK X G (.builtin "isinstance") isiA := by
  intro pins s σ H vs us Q I r q
  obtain ⟨ρ, h, ds, w, h', R, rs, e, k⟩ := q
  unfold isiA at e
  split at e
  · rename_i x t
    rw [Option.map_eq_some_iff] at e
    obtain ⟨u, e, e'⟩ := e
    cases e'
    cases rs with
    | cons r1 r2 =>
      cases r2 with
      | cons r2 r3 =>
        cases r3; cases r2
        obtain ⟨u1, u2, rfl, q1, q2⟩ := vals2 r
        obtain rfl := (ClsV.ty t.name).eq q2
        obtain ⟨P, Z, p, hx⟩ := kit_any I R r1 q1 e
        exact PySem.W.kia_one Z I.kIn p (kit_ty (kit_sub u t)) hx fun tk => ⟨.bl _, H, I.tok tk, rfl, k ρ H _ .refl R (.bl _)⟩
  · cases e
/-- isinstance(x, C), C an own class -/
theorem isC_run {C : Nat} {c : Addr} (gC : G C = some c) (cl : Cls X.K c) (ic : IsC X.K c) : CallR X (.builtin "isinstance") (fun xs H Q => ∃ (ρ : List Addr) (h : MH) (d w : D) (h' : MH) (x : V), xs = [x, .ref c] ∧ Rel X.K G ρ h H ∧ RD X.K G ρ H d x ∧ isCF C d h = some (w, h') ∧
    ∀ (ρ' : List Addr) (H' : Hp) (v' : V), Fut X.K ρ H ρ' H' → Rel X.K G ρ' h' H' → RD X.K G ρ' H' w v' → Q v' H') := by
  intro pins s σ H vs us Q I r q
  obtain ⟨ρ, h, d, w, h', x, rfl, R, rd, e, k⟩ := q
  obtain ⟨u1, u2, rfl, q1, q2⟩ := vals2 r
  obtain rfl := (ClsV.own c).eq q2
  have no : ∀ {t : Ty}, tyA h d = some t → w = .bl false → h' = h → wpAny (model X.prog X.w) X.A (call (.builtin "isinstance") [u1, .ref c]) (EP X pins σ Q) X.xe s := by
    intro t et ew eh
    subst ew eh
    obtain ⟨P, Z, p, hx⟩ := kit_any I R rd q1 et
    exact PySem.W.kia_one Z I.kIn p (ic.no t) hx fun tk => ⟨.bl _, H, I.tok tk, rfl, k ρ H _ .refl R (.bl _)⟩
  unfold isCF at e
  split at e
  · rename_i i
    split at e
    · rename_i E fs g
      cases eb : Nat.beq E C with
      | false => rw [eb] at e; cases e
      | true =>
        rw [eb] at e; cases e
        have : E = C := Nat.eq_of_beq_eq_true eb
        subst this
        obtain ⟨a, e1, c', dx, vs, e2, e3, _⟩ := R.ob _ _ g
        rw [gC] at e2; cases e2
        cases rd with
        | ref ha =>
          rw [ha] at e1; cases e1
          obtain ⟨P, Z, p, hx⟩ := kit_of I q1 (.base (.ins e3 cl ic.ha ic.hn ic.ht ic.hm))
          exact PySem.W.kia_one Z I.kIn p (by unfold PySem.W.kitOne; rw [if_pos (by simp)]) hx fun tk => ⟨.bl _, H, I.tok tk, rfl, k ρ H _ .refl R (.bl _)⟩
    · obtain ⟨t, et, e'⟩ := Option.map_eq_some_iff.mp e
      cases e'
      exact no et rfl rfl
  · obtain ⟨t, et, e'⟩ := Option.map_eq_some_iff.mp e
    cases e'
    exact no et rfl rfl
theorem me_isC {C : Nat} {c : Addr} {x : Str} {p p2 pos : Pos} {m : Mx} (gC : G C = some c) (cl : Cls X.K c) (ic : IsC X.K c) (hg : Gl X "isinstance") (hm : X.mg "isinstance" = none) (hgc : Gl X x) (hc : X.mg x = some (.ref c)) (he : PE X e (RdE X.K G W m))
    (hdb : (x == ("__debug__" : Str)) = false := by decide) (hs : starEach [e, .Name x p2] X.env = (false, eval e X.env) :: starEach [.Name x p2] X.env := by rfl) (hpl : (backTo pos (starEach [.Name x p2] X.env)).any (·.1) = false := by rfl)
    (hs2 : starEach [.Name x p2] X.env = (false, eval (.Name x p2) X.env) :: starEach [] X.env := by rfl) : PE X (.Call (.Name "isinstance" p) [e, .Name x p2] [] pos) (RdE X.K G W (eUn (isCF C) m)) := by
  refine PE.imp (pe_callB (isC_run (G := G) gC cl ic) hg hm bt_isinstance (pa_cons he (pa_cons (pe_glob (v := .ref c) hgc hc rfl hdb) pa_nil hs2) hs) (he := hs) (hpl := hpl)) fun σ H Q q => ?_
  obtain ⟨ρ, h, env, r, re, w⟩ := q
  refine ⟨ρ, h, env, r, re, Wp.bind w fun d h1 ρ1 H1 vx f1 r1 q1 w1 => ?_⟩
  obtain ⟨v, h', ea, k⟩ := w1.opt
  exact ⟨ρ1, h1, d, v, h', vx, rfl, r1, q1, ea, k⟩
end
/-! ### places.index(x): the places have no dict of their own -/
def eIdxN (m : Mx) (ms : Ma) : Mx := fun env h => (m env h).bind fun x h1 => (ms env h1).bind fun ds h2 => ofOpt (indexT x ds h2)
section
variable {X : Cx} {G : Nat → Option Addr} {W : WX} {o e : Expr} {es : List Expr}
theorem NdT.is {K : PySem.W.Frag} {P : Program} {w : World} {H : Hp} {b : Addr} {s : Shared} (hk : K.In s.heap) (ok : HOk P w H s.heap) (n : NdT K H b) : s.TypeIs (.ref b) "tuple" ∧ ∀ a, Value.ref b = .ref a → ∃ ob, s.heap.get? a = some ob ∧ ob.dict = none := by
  obtain ⟨ob, h1, h2, h3⟩ := n
  have e : s.heap.get? b = some ob := by
    rcases h3 with ⟨xs, e⟩ | e
    · exact (ok b _ e).1
    · exact hk b ob e
  refine ⟨⟨ob, e, h2⟩, fun a q => ?_⟩
  cases q
  exact ⟨ob, e, h1⟩
theorem me_idxN {apos cpos : Pos} {m : Mx} {ms : Ma} (ho : PE X o (RdN X.K G W m)) (ha : PA X (e :: es) (RdA X.K G W ms))
    (hbase : attributeBase o "index" X.env (eval o X.env) = eval o X.env := by rfl)
    (hfew : ((backTo cpos (starEach (e :: es) X.env)).all (fun x => !x.1) && (backToKw cpos (keywordEach [] X.env)).all (fun x => x.1.isSome)
      && decide ((e :: es).length + ([] : List Keyword).length + (if ([] : List Keyword).isEmpty then 0 else 1) < 30)) = true := by rfl)
    (hline : (apos.endLine == cpos.line) = true := by rfl) (hs : starEach (e :: es) X.env = (false, eval e X.env) :: starEach es X.env := by rfl) (hplain : (backTo cpos (starEach es X.env)).any (·.1) = false := by rfl) :
    PE X (.Call (.Attribute o "index" apos) (e :: es) [] cpos) (RdE X.K G W (eIdxN m ms)) := by
  refine ⟨fun pins s σ H Q I q => ?_⟩
  obtain ⟨ρ, h, env, r, re, w⟩ := q
  refine wpAny_Call_method_late hbase hfew hline rfl (thn (ho.run pins s σ H (fun x H1 => ∃ (ρ1 : List Addr) (h1 : MH) (d : D) (b : Addr), x = .ref b ∧ NdT X.K H1 b ∧ Rel X.K G ρ1 h1 H1 ∧ REnv X.K G ρ1 H1 env σ ∧ RD X.K G ρ1 H1 d x ∧ Wp X.K G (RD X.K G) ρ1 H1 ((ms env h1).bind fun ds h2 => ofOpt (indexT d ds h2)) Q (fun c d H' => W c d σ H'))
    I ⟨ρ, h, env, r, re, Wp.bind w fun x h1 ρ1 H1 vx f1 r1 q1 w1 => let ⟨b, e1, n1⟩ := q1.2; ⟨ρ1, h1, x, b, e1, n1, r1, re.fut f1, q1.1, w1⟩⟩) fun v s1 ⟨x, H1, I1, rx, ρ1, h1, d, b, ex, nd, r1, re1, rd, w1⟩ => ?_)
  subst ex
  obtain rfl : v = Value.ref b := rx
  obtain ⟨t1, t2⟩ := nd.is I1.kIn I1.hok
  refine ⟨"tuple", "tuple.index", PySem.F.plainAttrs_tuple, PySem.F.slot_tuple_index, PySem.F.type_tuple_index, t1, t2, ?_⟩
  have hA := ha.run cpos pins s1 σ H1 (fun xs H2 => ∃ (ρ2 : List Addr) (h2 : MH) (ds : List D), Rel X.K G ρ2 h2 H2 ∧ RD X.K G ρ2 H2 d (.ref b) ∧ RDs X.K G ρ2 H2 ds xs ∧ Wp X.K G (RD X.K G) ρ2 H2 (ofOpt (indexT d ds h2)) Q (fun c d H' => W c d σ H'))
    I1 ⟨ρ1, h1, env, r1, re1, Wp.bind w1 fun ds h2 ρ2 H2 vs f2 r2 q2 w2 => ⟨ρ2, h2, ds, r2, rd.fut f2, q2, w2⟩⟩
  rw [hs] at hA ⊢
  refine Calls.callWith_builtin (by show (false || (backTo cpos (starEach es X.env)).any (·.1)) = false; rw [hplain] <;> rfl) (Calls.evalArgs_plain ?_)
  refine thn hA fun us s2 ⟨vs, H2, I2, r2, ρ2, h2, ds, R2, rd2, rs2, w2⟩ => ?_
  obtain ⟨dv, h', ee, k⟩ := w2.opt
  exact mt_idxT pins s2 σ H2 (.ref b) vs (.ref b) us Q I2 rfl r2 ⟨ρ2, h2, d, ds, dv, h', R2, rd2, rs2, ee, k⟩
end
end MM

set_option Elab.async false
set_option linter.all false
set_option maxRecDepth 100000
set_option maxHeartbeats 4000000
set_option autoImplicit false
/-! slices of lists with a step -/
namespace MM
open PySem PySem.Spec PyProof.Rows L2
def stIx (n : Nat) (lo hi st : Option Int) : List Nat := sliceRange (sliceBounds lo hi st n).1 (sliceBounds lo hi st n).2.1 (sliceBounds lo hi st n).2.2
def stD {α : Type} (xs : List α) (lo hi st : Option Int) : List α := (stIx xs.length lo hi st).filterMap (xs[·]?)
def slSt (x : D) (lo hi st : Option Int) (h : MH) : Option (D × MH) := match x with
  | .ref i => match h.seq i with
    | some xs => bif !(decide (st = some 0)) && Nat.ble (stD xs lo hi st).length sizeLine then some (.ref h.n, h.add (.lst (stD xs lo hi st))) else none
    | none => none
  | _ => none
def eSt (m : Mx) (ml mh ms : Mo) : Mx := fun env h => (m env h).bind fun x h1 => (ml env h1).bind fun lo h2 => (mh env h2).bind fun hi h3 => (ms env h3).bind fun st h4 => ofOpt (slSt x lo hi st h4)
section
variable {X : Cx} {G : Nat → Option Addr} {W : WX} {e : Expr} {pos : Pos} {K : PySem.W.Frag} {ρ : List Addr} {H : Hp}
theorem rd_pick {ds : List D} {xs : List V} (r : RDs K G ρ H ds xs) : ∀ is : List Nat, RDs K G ρ H (is.filterMap (ds[·]?)) (is.filterMap (xs[·]?))
  | [] => .nil
  | i :: is => by
    rw [List.filterMap_cons, List.filterMap_cons]
    cases e : ds[i]? with
    | none =>
      have : xs[i]? = none := by
        rw [List.getElem?_eq_none_iff] at e ⊢
        rw [← r.length]; exact e
      rw [this]; exact rd_pick r is
    | some d =>
      obtain ⟨v, e1, e2⟩ := r.get e
      rw [e1]; exact .cons e2 (rd_pick r is)
theorem vals_pick {xs : List V} {us : List Value} (r : Vals xs us) : ∀ is : List Nat, Vals (is.filterMap (xs[·]?)) (is.filterMap (us[·]?))
  | [] => .nil
  | i :: is => by
    rw [List.filterMap_cons, List.filterMap_cons]
    cases e : xs[i]? with
    | none =>
      have : us[i]? = none := by
        rw [List.getElem?_eq_none_iff] at e ⊢
        rw [← r.length]; exact e
      rw [this]; exact vals_pick r is
    | some d =>
      obtain ⟨v, e1, e2⟩ := r.get e
      rw [e1]; exact .cons e2 (vals_pick r is)
theorem me_st {m : Mx} {ml mh ms : Mo} {lo hi : Option Expr} {st : Expr} {p3 : Pos} (he : PE X e (RdE X.K G W m)) (hl : PO X lo (RdO X.K G W ml)) (hu : PO X hi (RdO X.K G W mh)) (hs : PO X (some st) (RdO X.K G W ms))
    (hop : ∀ (a b : Addr), subscripted (.Slice lo hi (some st) p3) false (.ref a) (.ref b) = operate [.ref a, .ref b] (getItem (.ref a) (.ref b)) := by intro a b; with_unfolding_all rfl) :
    PE X (.Subscript e (.Slice lo hi (some st) p3) pos) (RdE X.K G W (eSt m ml mh ms)) := by
  refine ⟨fun pins s σ H Q I h => ?_⟩
  obtain ⟨ρ, h0, env, r, re, w⟩ := h
  refine Subscript_ (thn (he.run pins s σ H (fun x H1 => ∃ (ρ1 : List Addr) (h1 : MH) (d : D), Rel X.K G ρ1 h1 H1 ∧ REnv X.K G ρ1 H1 env σ ∧ RD X.K G ρ1 H1 d x ∧ Wp X.K G (RD X.K G) ρ1 H1 ((ml env h1).bind fun lo h2 => (mh env h2).bind fun hi h3 => (ms env h3).bind fun st h4 => ofOpt (slSt d lo hi st h4)) Q (fun c d H' => W c d σ H'))
    I ⟨ρ, h0, env, r, re, Wp.bind w fun x h1 ρ1 H1 vx f1 r1 q1 w1 => ⟨ρ1, h1, x, r1, re.fut f1, q1, w1⟩⟩) fun v s1 ⟨x, H1, I1, rx, ρ1, h1, d, r1, re1, rd, w1⟩ => ?_)
  refine wpAny_Slice (thn (hl.run pins s1 σ H1 (fun o H2 => ∃ (ρ2 : List Addr) (h2 : MH), Rel X.K G ρ2 h2 H2 ∧ REnv X.K G ρ2 H2 env σ ∧ RD X.K G ρ2 H2 d x ∧ Wp X.K G (RD X.K G) ρ2 H2 ((mh env h2).bind fun hi h3 => (ms env h3).bind fun st h4 => ofOpt (slSt d o hi st h4)) Q (fun c d H' => W c d σ H'))
    I1 ⟨ρ1, h1, env, r1, re1, Wp.bind w1 fun o h2 ρ2 H2 o' f2 r2 q2 w2 => by subst q2; exact ⟨ρ2, h2, r2, re1.fut f2, rd.fut f2, w2⟩⟩) fun vl s2 ⟨l, H2, I2, pl, ρ2, h2, r2, re2, rd2, w2⟩ => ?_)
  refine thn (hu.run pins s2 σ H2 (fun o H3 => ∃ (ρ3 : List Addr) (h3 : MH), Rel X.K G ρ3 h3 H3 ∧ REnv X.K G ρ3 H3 env σ ∧ RD X.K G ρ3 H3 d x ∧ Wp X.K G (RD X.K G) ρ3 H3 ((ms env h3).bind fun st h4 => ofOpt (slSt d l o st h4)) Q (fun c d H' => W c d σ H'))
    I2 ⟨ρ2, h2, env, r2, re2, Wp.bind w2 fun o h3 ρ3 H3 o' f3 r3 q3 w3 => by subst q3; exact ⟨ρ3, h3, r3, re2.fut f3, rd2.fut f3, w3⟩⟩) fun vu s3 ⟨u, H3, I3, pu, ρ3, h3, r3, re3, rd3, w3⟩ => ?_
  refine thn (hs.run pins s3 σ H3 (fun o H4 => ∃ (ρ4 : List Addr) (h4 : MH), Rel X.K G ρ4 h4 H4 ∧ RD X.K G ρ4 H4 d x ∧ Wp X.K G (RD X.K G) ρ4 H4 (ofOpt (slSt d l u o h4)) Q (fun c d H' => W c d σ H'))
    I3 ⟨ρ3, h3, env, r3, re3, Wp.bind w3 fun o h4 ρ4 H4 o' f4 r4 q4 w4 => by subst q4; exact ⟨ρ4, h4, r4, rd3.fut f4, w4⟩⟩) fun vs s4 ⟨stp, H4, I4, ps, ρ4, h4, r4, rd4, w4⟩ => ?_
  obtain ⟨dv, h', ee, k⟩ := w4.opt
  unfold slSt at ee
  split at ee
  · split at ee
    · rename_i xs es
      cases ec : !(decide (stp = some 0)) && Nat.ble (stD xs l u stp).length sizeLine with
      | false => rw [ec] at ee; cases ee
      | true =>
        rw [ec] at ee; cases ee
        simp only [Bool.and_eq_true, Bool.not_eq_true', decide_eq_false_iff_not] at ec
        have hz2 := Nat.le_of_ble_eq_true ec.2
        obtain ⟨a1, ys, p1, p2, p3'⟩ := r4.seq es
        cases rd4 with
        | ref ha =>
          rw [ha] at p1; cases p1
          obtain rfl : v = Value.ref _ := rx
          have I5 : Inv X pins σ H4 { s4 with heap := s4.heap.push { cls := .type "slice", data := .fields #[vl, vu, vs] } } := I4.kept (t' := s4.toks) fun b ob q => Heap.get?_push_of_some _ q
          obtain ⟨its, rv, ht, hz⟩ := I5.list p2
          show wpAny (model X.prog X.w) X.A (subscriptTail e (.Slice lo hi (some st) p3) (.ref _) (.ref s4.heap.objs.size)) (EP X pins σ Q) X.xe { s4 with heap := s4.heap.push { cls := .type "slice", data := .fields #[vl, vu, vs] } }
          refine tail_any (ops := [.ref _, .ref s4.heap.objs.size]) ht.isList.typeIs (PySem.slot_list_getitem.lookup) ?_ (hop _ _)
          refine wpAny_getItem_list_slice ht.isList (Heap.IsSliceOf.new _ vl vu vs) pl pu ps ec.1 ?_ (by rw [List.size_toArray, ← rv.length]; exact hz)
          have hl1 : xs.length = its.toArray.size := by rw [List.size_toArray, p3'.length, rv.length]
          have e1 : slicePick its.toArray l u stp = ((stIx xs.length l u stp).filterMap (its[·]?)).toArray := by
            unfold slicePick stIx
            rw [hl1]
            refine congrArg (fun f => (List.filterMap f _).toArray) (funext fun i => ?_)
            simp
          rw [e1]
          have rr : RDs X.K G ρ4 H4 (stD xs l u stp) ((stIx xs.length l u stp).filterMap (ys[·]?)) := rd_pick p3' _
          have hf : H4 _ = none := I5.hok.fresh (Nat.le_refl _)
          obtain ⟨f5, r5, q5⟩ := new_lst r4 hf rr
          refine ⟨.ref _, _, I5.laid (t' := s4.toks) (o := .lst ((stIx xs.length l u stp).filterMap (ys[·]?))) (fun b ob q => Heap.get?_push_of_some _ q) (Nat.le_refl _) ?_, rfl, k _ _ _ f5 r5 q5⟩
          exact ⟨by rw [← rr.length]; exact hz2, _, 0, vals_pick rv _, Heap.get?_push_size _ rfl⟩
    · cases ee
  · cases ee
end
end MM

set_option Elab.async false
set_option linter.all false
set_option maxRecDepth 100000
set_option maxHeartbeats 4000000
set_option autoImplicit false
/-! dicts with tuple keys: == -/
namespace MM
open PySem PySem.Spec PyProof.Rows L2
section
variable {prog : Program} {w : World} {K : Type} [DecidableEq K] {knd : HeapKind prog w K} {A : Around} {E : Value → Shared → Prop} {s : Shared}
/-- each entry is found, with an equal value: the answer -/
inductive HitsP (prog : Program) (w : World) (A : Around) (s : Shared) (ys : List (K × Addr × Value)) : List (K × Addr × Value) → Bool → Prop
  | nil : HitsP prog w A s ys [] true
  | miss {x : K × Addr × Value} {r : List (K × Addr × Value)} : atKey ys x.1 = none → HitsP prog w A s ys (x :: r) false
  | hit {x : K × Addr × Value} {r : List (K × Addr × Value)} {q : Addr × Value} {e b : Bool} : atKey ys x.1 = some q → SeqAt.EqP prog w A s x.2.2 q.2 e → HitsP prog w A s ys r b → HitsP prog w A s ys (x :: r) (e && b)
theorem HitsP.inv {ys : List (K × Addr × Value)} {x : K × Addr × Value} {r : List (K × Addr × Value)} {b : Bool} (h : HitsP prog w A s ys (x :: r) b) : (atKey ys x.1 = none ∧ b = false) ∨ ∃ q e b', atKey ys x.1 = some q ∧ SeqAt.EqP prog w A s x.2.2 q.2 e ∧ HitsP prog w A s ys r b' ∧ b = (e && b') := by
  cases h with
  | miss h1 => exact .inl ⟨h1, rfl⟩
  | hit h1 h2 h3 => exact .inr ⟨_, _, _, h1, h2, h3, rfl⟩
theorem at_get {ys : List (K × Addr × Value)} {k : K} (nd : (ys.map (·.1)).Nodup) {j : Nat} {p : Addr × Value} (h : ys[j]? = some (k, p)) : atKey ys k = some p := by
  cases q : atKey ys k with
  | none =>
    exfalso
    simp only [atKey, Option.map_eq_none_iff, List.find?_eq_none] at q
    exact q _ (List.mem_of_getElem? h) (by simp)
  | some p2 =>
    obtain ⟨x, h1, h2⟩ := Option.map_eq_some_iff.mp q
    have h3 := List.find?_some h1
    obtain ⟨i, h4⟩ := List.getElem?_of_mem (List.mem_of_find?_eq_some h1)
    have e1 : x.1 = k := by simpa using h3
    have e2 : x = (k, p2) := by cases x; simp only at e1 h2; rw [e1, h2]
    rw [e2] at h4
    have := idxH_unique nd h4 h
    subst this
    rw [h] at h4; cases h4; rfl
theorem at_none {ys : List (K × Addr × Value)} {k : K} (h : ∀ (j : Nat) (p : Addr × Value), ys[j]? ≠ some (k, p)) : atKey ys k = none := by
  cases q : atKey ys k with
  | none => rfl
  | some p2 =>
    obtain ⟨x, h1, h2⟩ := Option.map_eq_some_iff.mp q
    obtain ⟨i, h4⟩ := List.getElem?_of_mem (List.mem_of_find?_eq_some h1)
    have e1 : x.1 = k := by simpa using List.find?_some h1
    have e2 : x = (k, p2) := by cases x; simp only at e1 h2; rw [e1, h2]
    rw [e2] at h4
    exact absurd h4 (h i p2)
theorem same_pairsH {nm : String} {a b : Addr} {xs ys : List (K × Addr × Value)} {r : Bool} {Q : Bool → Shared → Prop} (la : (a == sysModules) = false) (lb : (b == sysModules) = false) (hu : knd.room A) (da : s.heap.DictOfH knd a xs) (db : s.heap.DictOfH knd b ys)
    (hits : xs.length = ys.length → HitsP prog w A s ys xs r) (fin : Q (Nat.beq xs.length ys.length && r) s) : wpAny (model prog w) A (Builtin.Dict.samePairs nm a b) Q E s := by
  obtain ⟨oa, es, ep, ga, _, ea, ha, isa, _⟩ := da
  obtain ⟨ob, es', ep', gb, _, eb, hb, isb, ndb⟩ := db
  have n1 : es.size = xs.length := size_of_entries ha
  have n2 : es'.size = ys.length := size_of_entries hb
  rw [← n1, ← n2] at fin
  unfold Builtin.Dict.samePairs Builtin.Dict.showsAll
  rw [if_neg (by rw [la]; exact Bool.false_ne_true), if_neg (by rw [lb]; exact Bool.false_ne_true)]
  refine wpAny_bind (wpAny_pure (wpAny_bind (wpAny_pure (wpAny_bind (wpAny_dictEntries ga ea ?_)))))
  dsimp only
  refine wpAny_bind (wpAny_dictEntries gb eb ?_)
  by_cases sz : es.size = es'.size
  · have all : Q r s := by rw [sz, Nat.beq_refl, Bool.true_and] at fin; exact fin
    have first := hits (by omega)
    rw [if_neg (by rw [sz]; simp)]
    refine wpAny_bind (wpAny_dictEpoch ga ea (wpAny_bind ?_))
    rw [Std.Legacy.Range.forIn_eq_forIn_range']
    simp only [Std.Legacy.Range.size, Nat.sub_zero, Nat.add_sub_cancel, Nat.div_one]
    refine wpAny_forIn_list _ (fun rest q t => t = s ∧ q = (none, ()) ∧ ∃ i, rest = List.range' i (es.size - i) ∧ i ≤ es.size ∧ HitsP prog w A s ys (xs.drop i) r) _ ?_ ?_ _ _ ⟨rfl, rfl, 0, by simp, Nat.zero_le _, first⟩
    · rintro i0 rest q t ⟨rfl, rfl, i, er, le, same⟩
      have lt : i < es.size := by
        rcases Nat.lt_or_ge i es.size with z | z
        · exact z
        · rw [Nat.sub_eq_zero_of_le z] at er; cases er
      rw [show es.size - i = (es.size - (i + 1)) + 1 by omega, List.range'_succ] at er
      injection er with e1 e2
      subst e1
      have lx : i0 < xs.length := by omega
      obtain ⟨⟨k, ad, v⟩, ex⟩ : ∃ x, xs[i0] = x := ⟨_, rfl⟩
      have gx : xs[i0]? = some (k, ad, v) := by rw [List.getElem?_eq_getElem lx, ex]
      have ge : es[i0]? = some (entryOfKey knd (k, ad, v)) := by rw [entry_at ha, gx]; rfl
      have dr : xs.drop i0 = (k, ad, v) :: xs.drop (i0 + 1) := by rw [← ex]; exact List.drop_eq_getElem_cons lx
      rw [dr] at same
      have mem : (k, ad, v) ∈ xs := List.mem_of_getElem? gx
      refine wpAny_bind (wpAny_dictEntries ga ea ?_)
      rw [ge]
      show wpAny _ _ (holding [.ref ad, v] _ >>= _) _ _ _
      refine wpAny_bind (wpAny_holding (wpAny_bind (wpAny_dictFind_heap hu (isa _ mem) gb eb hb isb ndb (fun no => ?_) fun j p yes => ?_)))
      · have none' := at_none no
        rcases same.inv with ⟨_, er⟩ | ⟨q, _, _, e1, _⟩
        · refine wpAny_pure ?_
          show wpAny _ _ (if (!false) = true then _ else _) _ _ _
          rw [if_pos (by decide)]
          exact wpAny_pure (wpAny_pure (by rw [er] at all; exact all))
        · rw [none'] at e1; cases e1
      · have some' := at_get ndb yes
        refine wpAny_bind (wpAny_dictEntries gb eb ?_)
        have gj : es'[j]? = some (entryOfKey knd (k, p.1, p.2)) := by rw [entry_at hb, yes]; rfl
        rw [gj]
        rcases same.inv with ⟨e1, _⟩ | ⟨q, c, b', e1, val, more, er⟩
        · rw [some'] at e1; cases e1
        · rw [some'] at e1; cases e1
          refine wpAny_holding (val _ _ ?_)
          cases c with
          | false =>
            rw [er, Bool.false_and] at all
            show wpAny _ _ (if (!false) = true then _ else _) _ _ _
            rw [if_pos (by decide)]
            exact wpAny_pure (wpAny_pure all)
          | true =>
            rw [Bool.true_and] at er
            subst er
            show wpAny _ _ (if (!true) = true then _ else _) _ _ _
            rw [if_neg (by decide)]
            refine wpAny_bind (wpAny_dictEpoch ga ea ?_)
            rw [if_neg (by simp)]
            exact wpAny_pure ⟨rfl, rfl, i0 + 1, e2, lt, more⟩
    · rintro q t ⟨rfl, rfl, i, er, le, same⟩
      have hi : i = es.size := by
        rcases Nat.lt_or_ge i es.size with z | z
        · rw [show es.size - i = (es.size - (i + 1)) + 1 by omega, List.range'_succ] at er; cases er
        · omega
      rw [hi, n1, List.drop_length] at same
      cases same
      exact wpAny_pure all
  · rw [if_pos (by simpa using sz)]
    have : Nat.beq es.size es'.size = false := beq_f sz
    rw [this, Bool.false_and] at fin
    exact wpAny_bind (wpAny_rule (wpAny_pure fin))
theorem rc_dictsH {a b : Addr} {xs ys : List (K × Addr × Value)} {r : Bool} (la : (a == sysModules) = false) (lb : (b == sysModules) = false) (hu : knd.room A.in1) (hc : A.units < cLine) (da : s.heap.DictOfH knd a xs) (db : s.heap.DictOfH knd b ys)
    (hits : xs.length = ys.length → HitsP prog w A.in1 s ys xs r) (E Q : Value → Shared → Prop) (fin : Q (.bool (Nat.beq xs.length ys.length && r)) s) : wpAny (model prog w) A (richCompare .Eq (.ref a) (.ref b)) Q E s := by
  refine wpAny_richCompare_same_room (op := .Eq) da.typeIs db.typeIs PySem.F.slot_dict_eq (wpAny_call_entry PySem.F.slot_dict_eq da.typeIs PySem.F.entry_dict_eq ?_ (PySem.F.args_dict_eq_2 _ _)) hc
  show wpAny _ _ (Builtin.Dict.dictSlotArgs "__eq__" ⟨[.ref a, .ref b], []⟩ >>= _) _ _ s
  unfold Builtin.Dict.dictSlotArgs
  refine wpAny_bind (wpAny_bind (wpAny_notOrdered_dict da.typeIs (wpAny_pure ?_)))
  refine wpAny_bind (wpAny_isInstance (T := "dict") db.typeIs PySem.F.sub_dict_dict ?_)
  simp only [Bool.not_true, Bool.false_eq_true, if_false]
  refine wpAny_bind (wpAny_pure (wpAny_bind (wpAny_pure (wpAny_bind (same_pairsH la lb hu da db hits (wpAny_pure ⟨_, rfl, (fun z => nomatch z), by simpa using fin⟩))))))
theorem rc_dictsNe {a b : Addr} {xs ys : List (K × Addr × Value)} {r : Bool} (la : (a == sysModules) = false) (lb : (b == sysModules) = false) (hu : knd.room A.in1) (hc : A.units < cLine) (da : s.heap.DictOfH knd a xs) (db : s.heap.DictOfH knd b ys)
    (hits : xs.length = ys.length → HitsP prog w A.in1 s ys xs r) (E Q : Value → Shared → Prop) (fin : Q (.bool (!(Nat.beq xs.length ys.length && r))) s) : wpAny (model prog w) A (compareOp .NotEq (.ref a) (.ref b)) Q E s := by
  refine wpAny_richCompare_same_room (op := .NotEq) da.typeIs db.typeIs PySem.F.slot_dict_ne (wpAny_call_entry PySem.F.slot_dict_ne da.typeIs PySem.F.entry_dict_ne ?_ (PySem.F.args_dict_ne_2 _ _)) hc
  show wpAny _ _ (Builtin.Dict.dictSlotArgs "__ne__" ⟨[.ref a, .ref b], []⟩ >>= _) _ _ s
  unfold Builtin.Dict.dictSlotArgs
  refine wpAny_bind (wpAny_bind (wpAny_notOrdered_dict da.typeIs (wpAny_pure ?_)))
  refine wpAny_bind (wpAny_isInstance (T := "dict") db.typeIs PySem.F.sub_dict_dict ?_)
  simp only [Bool.not_true, Bool.false_eq_true, if_false]
  refine wpAny_bind (wpAny_pure (wpAny_bind (wpAny_pure (wpAny_bind (same_pairsH la lb hu da db hits (wpAny_pure ⟨_, rfl, (fun z => nomatch z), by simpa using fin⟩))))))
end
/-! ### our functions -/
def valEq (h : MH) (a b : D) : Option Bool := match snap h deep a, snap h deep b with
  | some x, some y => bif SeqAt.shaped x && SeqAt.shaped y then some (PyData.eqv x y) else none
  | _, _ => none
def hitsD (h : MH) (ls : List (D × D)) : List (D × D) → Option Bool
  | [] => some true
  | (k, v) :: r => match valT ls k with
    | some u => match valEq h v u, hitsD h ls r with
      | some c, some b => some (c && b)
      | _, _ => none
    | none => some false
def dtEq (h : MH) (a b : D) : Option Bool := match a, b with
  | .ref i, .ref j => match h.dt i, h.dt j with
    | some ks, some ls => bif Nat.beq ks.length ls.length then (bif ks.all (fun p => keyOk p.1) then hitsD h ls ks else none) else some false
    | _, _ => none
  | _, _ => none
def eqA (a b : D) (h : MH) : Option (D × MH) := match dtEq h a b with
  | some c => some (.bl c, h)
  | none => eqD a b h
def neA (a b : D) (h : MH) : Option (D × MH) := match dtEq h a b with
  | some c => some (.bl (!c), h)
  | none => neD a b h
section
variable {X : Cx} {G : Nat → Option Addr} {pins : List (Addr × Obj)} {σ : L2.St} {H : Hp} {s : Shared} {ρ : List Addr} {k : Nat}
theorem valEq_run {h : MH} {a b : D} {x y : V} {u v : Value} {c : Bool} {A : Around} (I : Inv X pins σ H s) (R : Rel X.K G ρ h H) (ra : RD X.K G ρ H a x) (rb : RD X.K G ρ H b y) (rx : RelV x u) (ry : RelV y v) (hu : A.units + 65 < cLine) (e : valEq h a b = some c) : SeqAt.EqP X.prog X.w A.in1 s u v c := by
  unfold valEq at e
  split at e
  · rename_i p q e1 e2
    cases ec : SeqAt.shaped p && SeqAt.shaped q with
    | false => rw [ec] at e; cases e
    | true =>
      rw [ec] at e; cases e
      rw [Bool.and_eq_true] at ec
      obtain ⟨as, r1⟩ := Dp.reads I p x u (ra.dp R e1) rx
      obtain ⟨bs, r2⟩ := Dp.reads I q y v (rb.dp R e2) ry
      exact (PySem.W.keq_at r1 r2 ec.1 ec.2 (by show A.units + 1 + 64 < cLine; omega)).eqP
  · cases e
theorem hits_eq {h : MH} {ls : List (D × D)} {vs2 : List (NestedKey × Addr × V)} {ws2 : List Value} {A : Around} (I : Inv X pins σ H s) (R : Rel X.K G ρ h H) (hu : A.units + 65 < cLine) (r2 : RKs X.K G ρ H ls vs2) (v2 : Vals (vs2.map (·.2.2)) ws2) : ∀ {ks : List (D × D)} {vs : List (NestedKey × Addr × V)} {ws : List Value} {c : Bool}, RKs X.K G ρ H ks vs → Vals (vs.map (·.2.2)) ws →
    hitsD h ls ks = some c → HitsP X.prog X.w A.in1 s (List.zipWith yz vs2 ws2) (List.zipWith yz vs ws) c
  | _, _, _, c, .nil, .nil, e => by cases e; exact .nil
  | _, _, _, c, .cons (d := d) (e := e0) (k := k) q ra rv t, .cons rr rt, e => by
    unfold hitsD at e
    rw [List.zipWith_cons_cons]
    have hk := valT_ok q r2
    cases ev : valT ls d with
    | none =>
      rw [ev] at e; cases e
      exact .miss (zip_none k v2 (hk.2 ev))
    | some u =>
      rw [ev] at e
      simp only at e
      obtain ⟨x', f1, f2⟩ := hk.1 u ev
      obtain ⟨u2, f3, f4⟩ := zip_at k v2 f1
      split at e
      · rename_i c1 b1 e1 e2
        cases e
        exact .hit f3 (valEq_run I R rv f2 rr f4 hu e1) (hits_eq I R hu r2 v2 t rt e2)
      · cases e
theorem dtEq_run {h : MH} {a b : D} {x y : V} {u v : Value} {c : Bool} {A : Around} (I : Inv X pins σ H s) (R : Rel X.K G ρ h H) (ra : RD X.K G ρ H a x) (rb : RD X.K G ρ H b y) (rx : RelV x u) (ry : RelV y v) (hu : A.units + 65 < cLine) (e : dtEq h a b = some c) :
    ∃ p q xs ys r, u = .ref p ∧ v = .ref q ∧ (p == sysModules) = false ∧ (q == sysModules) = false ∧ s.heap.DictOfH (nestedKind X.prog X.w) p xs ∧ s.heap.DictOfH (nestedKind X.prog X.w) q ys ∧ (xs.length = ys.length → HitsP X.prog X.w A.in1 s ys xs r) ∧ (Nat.beq xs.length ys.length && r) = c := by
  unfold dtEq at e
  split at e
  · split at e
    · rename_i ks ls g1 g2
      obtain ⟨a1, vs1, ws1, p1, p3, p4, h4, hl, hm⟩ := R.dtH I g1
      obtain ⟨a2, vs2, ws2, q1, q3, q4, k4, kl, km⟩ := R.dtH I g2
      have n1 : (List.zipWith yz vs1 ws1).length = ks.length := by rw [List.length_zipWith, hl, Nat.min_self, p4.len]
      have n2 : (List.zipWith yz vs2 ws2).length = ls.length := by rw [List.length_zipWith, kl, Nat.min_self, q4.len]
      cases ra with
      | ref ha =>
        rw [ha] at p1; cases p1
        cases rb with
        | ref hb =>
          rw [hb] at q1; cases q1
          obtain rfl := (show u = Value.ref _ from rx)
          obtain rfl := (show v = Value.ref _ from ry)
          cases en : Nat.beq ks.length ls.length with
          | false =>
            rw [en] at e; cases e
            refine ⟨_, _, _, _, true, rfl, rfl, p3.low, q3.low, hm, km, fun z => ?_, by rw [n1, n2, en]; rfl⟩
            rw [n1, n2] at z
            rw [z, Nat.beq_refl] at en; cases en
          | true =>
            rw [en, cond_true] at e
            cases ek : ks.all (fun p => keyOk p.1) with
            | false => rw [ek] at e; cases e
            | true =>
              rw [ek, cond_true] at e
              exact ⟨_, _, _, _, c, rfl, rfl, p3.low, q3.low, hm, km, fun _ => hits_eq I R hu q4 k4 p4 h4 e, by rw [n1, n2, en]; rfl⟩
    · cases e
  · cases e
theorem ok_eqA (hr : Room k X.A) : OpOK X G (compareOp .Eq) eqA := by
  intro pins s σ H x y v u Q I rx ry q
  obtain ⟨ρ, h, a, b, w, h', R, ra, rb, e, kk⟩ := q
  unfold eqA at e
  split at e
  · rename_i c ec
    cases e
    obtain ⟨p, q, xs, ys, r, rfl, rfl, l1, l2, d1, d2, hits, rfl⟩ := dtEq_run I R ra rb rx ry (hu65 hr) ec
    exact rc_dictsH l1 l2 (hroom hr) (by have := hr.un; omega) d1 d2 hits _ _ ⟨.bl _, H, I, rfl, kk ρ H _ .refl R (.bl _)⟩
  · exact ok_eq hr.units pins s σ H x y v u Q I rx ry ⟨ρ, h, a, b, w, h', R, ra, rb, e, kk⟩
theorem ok_neA (hr : Room k X.A) : OpOK X G (compareOp .NotEq) neA := by
  intro pins s σ H x y v u Q I rx ry q
  obtain ⟨ρ, h, a, b, w, h', R, ra, rb, e, kk⟩ := q
  unfold neA at e
  split at e
  · rename_i c ec
    cases e
    obtain ⟨p, q, xs, ys, r, rfl, rfl, l1, l2, d1, d2, hits, rfl⟩ := dtEq_run I R ra rb rx ry (hu65 hr) ec
    exact rc_dictsNe l1 l2 (hroom hr) (by have := hr.un; omega) d1 d2 hits _ _ ⟨.bl _, H, I, rfl, kk ρ H _ .refl R (.bl _)⟩
  · exact ok_ne hr.units pins s σ H x y v u Q I rx ry ⟨ρ, h, a, b, w, h', R, ra, rb, e, kk⟩
end
/-! ### a display with tuple keys -/
def putAllT (ks : List (D × D)) : List (D × D) → List (D × D)
  | [] => ks
  | (a, b) :: r => putAllT (putT ks a b) r
def putDctT (i : Nat) (qs : List (D × D)) (h : MH) : Option (D × MH) := bif qs.all (fun p => keyOk p.1) && Nat.ble qs.length 15 then match h.get i with
  | some (.dct []) => some (.ref i, h.set i (.dt (putAllT [] qs)))
  | _ => none else none
def eDctT (ps : List (Mx × Mx)) : Mx := fun env h => (ePs ps env (h.add (.dct []))).bind fun qs h2 => ofOpt (putDctT h.n qs h2)
section
variable {X : Cx} {G : Nat → Option Addr} {W : WX} {pins : List (Addr × Obj)} {σ : L2.St} {H : Hp} {s : Shared} {ρ : List Addr} {k : Nat} {pos : Pos}
theorem all_put (I : Inv X pins σ H s) : ∀ {qs : List (D × D)} {us : List (V × V)} {rs : List (Value × Value)} {ks : List (D × D)} {vs : List (NestedKey × Addr × V)} {ws : List Value}, RPs X.K G ρ H qs us → VV us rs → qs.all (fun p => keyOk p.1) = true →
    RKs X.K G ρ H ks vs → (vs.map (·.1)).Nodup → (∀ x ∈ vs, x.1.depth ≤ 8) → Vals (vs.map (·.2.2)) ws →
    ∃ ps vs' ws', CarriesH (nestedKind X.prog X.w) s.heap rs ps ∧ RKs X.K G ρ H (putAllT ks qs) vs' ∧ (vs'.map (·.1)).Nodup ∧ (∀ x ∈ vs', x.1.depth ≤ 8) ∧ vs'.length ≤ vs.length + qs.length ∧ Vals (vs'.map (·.2.2)) ws' ∧ List.zipWith yz vs' ws' = storedAllH (List.zipWith yz vs ws) ps
  | _, _, _, ks, vs, ws, .nil, .nil, _, rk, nd, dp, vv => ⟨[], vs, ws, trivial, rk, nd, dp, Nat.le_refl _, vv, rfl⟩
  | _, _, _, ks, vs, ws, .cons (x := a) (y := b) ra rb t, .cons (b := rb2) hh tt, ok, rk, nd, dp, vv => by
    obtain ⟨u1, u2⟩ := rb2
    rw [List.all_cons, Bool.and_eq_true] at ok
    obtain ⟨b', kk, rfl, e2, q1, q2⟩ := key_at I ra hh.1 ok.1
    simp only at e2
    subst e2
    obtain ⟨kd, kd1, kd2, _⟩ := keyOk_some ok.1
    rw [q1] at kd1; cases kd1
    obtain ⟨ws1, z1, z2⟩ := zip_put (k := kk) (b := b') hh.2 nd vv
    obtain ⟨ps, vs', ws', c1, c2, c3, c4, c5, c6, c7⟩ := all_put I t tt ok.2 (rk.put q1 ra rb) (putN_nodup nd) (fun x hx => by
      rcases putN_mem hx with z | ⟨y, h1, h2⟩
      · rw [z]; exact kd2
      · rw [h2]; exact dp y h1) z1
    refine ⟨(kk, b', u2) :: ps, vs', ws', ⟨rfl, rfl, q2, c1⟩, c2, c3, c4, ?_, c6, by rw [c7, z2]; rfl⟩
    rw [List.length_cons]
    exact Nat.le_trans c5 (Nat.le_trans (Nat.add_le_add_right putN_len _) (by omega))
theorem me_dctT {ps : List (Mx × Mx)} {keys : List (Option Expr)} {values : List Expr} (hr : Room k X.A) (h : PPs X pos keys values (ps.map fun p => (RdE X.K G W p.1, RdE X.K G W p.2))) (hall : keys.all (·.isSome) = true) (hl : keys.length = values.length) (h0 : keys ≠ [])
    (h15 : keys.length ≤ 15) : PE X (.Dict keys values pos) (RdE X.K G W (eDctT ps)) := by
  refine ⟨fun pins s σ H Q I q => ?_⟩
  obtain ⟨ρ, h1, env, r, re, w⟩ := q
  have hn := I.hok.fresh (Nat.le_refl s.heap.objs.size)
  have I1 := I.laid (a := s.heap.objs.size) (o := .dK []) (h' := s.heap.push { cls := .type "dict", data := .dict #[] }) (t' := s.toks) (fun _ _ q => Heap.get?_push_of_some _ q) (Nat.le_refl _) (dk_empty s.heap I.big)
  have f0 : Fut X.K ρ H (ρ ++ [s.heap.objs.size]) (upd H s.heap.objs.size (.dK [])) := Fut.upd hn
  have r0 : Rel X.K G (ρ ++ [s.heap.objs.size]) (h1.add (.dct [])) (upd H s.heap.objs.size (.dK [])) := r.new hn rfl ⟨[], upd_same, .nil⟩
  have hn2 := pairTrees_length keys values X.env pos hall hl
  rw [arm_eval_Dict, zip_pairTrees keys values X.env pos hall hl, dictDisplay_pairs (pairTrees keys values X.env pos) (by intro z; rw [z] at hn2; exact h0 (List.length_eq_zero_iff.mp hn2.symm)) (by omega)]
  refine wpAny_bind (wpAny_standAt (wpAny_bind (wpAny_subDictH (knd := nestedKind X.prog X.w) (by have := hr.un; show X.A.units + 8 < cLine; omega) (by omega) ?_)))
  refine thn (h.run pins _ σ _ (fun us H2 => ∃ (ρ2 : List Addr) (h2 : MH) (qs : List (D × D)), Rel X.K G ρ2 h2 H2 ∧ Fut X.K (ρ ++ [s.heap.objs.size]) (upd H s.heap.objs.size (.dK [])) ρ2 H2 ∧ RPs X.K G ρ2 H2 qs us ∧ Wp X.K G (RD X.K G) ρ2 H2 (ofOpt (putDctT h1.n qs h2)) Q (fun c d H' => W c d σ H')) I1
    (rd_pairs ps r0 (re.fut f0) (Wp.bind (Wp.fut f0 w) fun qs h2 ρ2 H2 us f2 r2 q2 w2 => ⟨ρ2, h2, qs, r2, f2, q2, w2⟩))) fun rs s2 ⟨us, H2, I2, rel, ρ2, h2, qs, r2, f2, q2, w2⟩ => ?_
  obtain ⟨v, h', ee, kk⟩ := w2.opt
  unfold putDctT at ee
  cases ec : qs.all (fun p => keyOk p.1) && Nat.ble qs.length 15 with
  | false => rw [ec] at ee; cases ee
  | true =>
    rw [ec, cond_true] at ee
    rw [Bool.and_eq_true] at ec
    split at ee
    · rename_i g
      cases ee
      have at2 : ρ2[h1.n]? = some s.heap.objs.size := f2.at (by rw [← r.len]; simp)
      obtain ⟨a2, e2, vs0, g2, z0⟩ := r2.ob _ _ g
      rw [at2] at e2; cases e2
      cases z0
      obtain ⟨dok, dd0⟩ := dk_nil I2 (.inl g2)
      obtain ⟨pp, vs', ws', c1, c2, c3, c4, c5, c6, c7⟩ := all_put I2 q2 rel ec.1 .nil List.nodup_nil (fun x hx => nomatch hx) .nil
      refine ⟨pp, c1, dd0, fun hh tk dd hs => wpAny_pure ?_⟩
      have nt : NoTup (H2 s.heap.objs.size) := by rw [g2]; exact .dK _
      have fu : Fut X.K ρ2 H2 ρ2 (upd H2 s.heap.objs.size (dtO s.heap.objs.size vs')) := Fut.updS at2 nt
      have fr : ∀ x ∈ vs', nfree x.1 = true := fun x hx => let ⟨d, e, _⟩ := c2.mem x hx; nk_free e
      have hz : vs'.length ≤ sizeLine := by
        have := Nat.le_of_ble_eq_true ec.2
        rw [sizeLine_eq]
        simp only [List.length_nil] at c5
        omega
      have oo : ObjOk X.prog X.w (upd H2 s.heap.objs.size (dtO s.heap.objs.size vs')) hh s.heap.objs.size (dtO s.heap.objs.size vs') := dt_obj c6 fr (by rw [c7]; exact dd)
      exact ⟨.ref _, _, d_write I2 (by rw [g2]; trivial) hs (let ⟨q, _, _, hq, _⟩ := dd; ⟨q, hq⟩) oo, rfl, kk ρ2 _ _ fu (r2.set g rfl rfl at2 nt ⟨_, upd_same, ⟨c3, hz, dok.low, c4⟩, c2.fut fu⟩) (.ref at2)⟩
    · cases ee
end
end MM

set_option Elab.async false
set_option linter.all false
set_option maxRecDepth 100000
set_option maxHeartbeats 4000000
set_option autoImplicit false
/-! enumerate and zip over lists and tuples, mixed -/
namespace MM
open PySem PySem.Spec PyProof.Rows L2

inductive Sr where
  | l (a : Addr) | t (a : Addr)
def Sr.a : Sr → Addr
  | .l a => a
  | .t a => a
def Sr.has (K : PySem.W.Frag) (H : Hp) : Sr → List V → Prop
  | .l a, xs => SqL K H a xs
  | .t a, xs => SqT K H a xs
def Sr.At (h : Heap) (it : Addr) (i : Nat) : Sr → Prop
  | .l a => h.IsListIter it a i
  | .t a => h.IsTupleIter it a i
def Sr.Is (h : Heap) (its : Array Value) : Sr → Prop
  | .l a => h.IsList a its
  | .t a => h.IsTuple a its
def Sr.o : Sr → Obj
  | .l a => { cls := .type "list_iterator", data := .fields #[.ref a, .int 0 0] }
  | .t a => { cls := .type "tuple_iterator", data := .fields #[.ref a, .int 0 0] }
section
variable {prog : Program} {w : World} {A : Around} {X : Cx} {pins : List (Addr × Obj)} {σ : L2.St} {H : Hp} {s : Shared} {src : Sr}
theorem Sr.inv (I : Inv X pins σ H s) {xs : List V} (h : src.has X.K H xs) : ∃ its : List Value, Vals xs its ∧ src.Is s.heap its.toArray := by
  cases src with
  | l a => obtain ⟨its, r, p, _⟩ := I.list h; exact ⟨its, r, p.isList⟩
  | t a => obtain ⟨its, r, p, _⟩ := I.tuple h; exact ⟨its, r, p⟩
theorem Sr.inj (I : Inv X pins σ H s) {xs ys : List V} (h : src.has X.K H xs) (h' : src.has X.K H ys) : xs = ys := by
  cases src with
  | l a => exact I.list_inj h h'
  | t a => exact I.tuple_inj h h'
theorem Sr.ne {h : Heap} {it : Addr} {i : Nat} {its : Array Value} (a : src.At h it i) (b : src.Is h its) : src.a ≠ it := by
  cases src with
  | l p =>
    obtain ⟨o, e1, c1, _⟩ := a
    obtain ⟨o', e2, c2, _⟩ := b
    intro z
    have z' : p = it := z
    subst z'
    rw [e1] at e2; cases e2; rw [c1] at c2; injection c2 with c2; exact absurd c2 (by decide)
  | t p =>
    obtain ⟨o, e1, c1, _⟩ := a
    obtain ⟨o', e2, c2, _⟩ := b
    intro z
    have z' : p = it := z
    subst z'
    rw [e1] at e2; cases e2; rw [c1] at c2; injection c2 with c2; exact absurd c2 (by decide)
theorem Sr.draws (hh : A.handled = none) {it : Addr} (hne : src.a ≠ it) (its : Array Value) : Draws prog w A it [it, src.a] its.size (fun i v => its[i]? = some v) (fun i h => src.At h it i ∧ src.Is h its) := by
  cases src with
  | l a => exact Draws.list hh it a hne its
  | t a => exact Draws.tuple hh it a hne its
theorem Sr.begins (its : Array Value) : Begins (.ref src.a) src.o fun h => src.Is h its := by
  cases src with
  | l a => exact begins_list a its
  | t a => exact begins_tuple a its
theorem Sr.At.keep {h h' : Heap} {it : Addr} {i : Nat} (a : src.At h it i) (k : ∀ o, h.get? it = some o → h'.get? it = some o) : src.At h' it i := by
  cases src with
  | l p => obtain ⟨o, e, r⟩ := a; exact ⟨o, k o e, r⟩
  | t p => obtain ⟨o, e, r⟩ := a; exact ⟨o, k o e, r⟩
theorem Sr.At.live {h : Heap} {it : Addr} {i : Nat} (a : src.At h it i) : ∃ o, h.get? it = some o ∧ ∀ v, o.data ≠ .cell v := by
  cases src with
  | l p => obtain ⟨o, e, _, d⟩ := a; exact ⟨o, e, fun v z => by rw [d] at z; cases z⟩
  | t p => obtain ⟨o, e, _, d⟩ := a; exact ⟨o, e, fun v z => by rw [d] at z; cases z⟩
theorem Sr.At.start {h : Heap} {it : Addr} (e : h.get? it = some src.o) : src.At h it 0 := by
  cases src with
  | l p => exact ⟨_, e, rfl, rfl⟩
  | t p => exact ⟨_, e, rfl, rfl⟩
theorem Sr.Is.clsNe {h : Heap} {its : Array Value} {e : Addr} {o : Obj} (b : src.Is h its) (he : h.get? e = some o) (h1 : o.cls ≠ .type "list") (h2 : o.cls ≠ .type "tuple") : e ≠ src.a := by
  cases src with
  | l p => obtain ⟨o', e2, c2, _⟩ := b; intro z; have z' : e = p := z; subst z'; rw [he] at e2; cases e2; exact h1 c2
  | t p => obtain ⟨o', e2, c2, _⟩ := b; intro z; have z' : e = p := z; subst z'; rw [he] at e2; cases e2; exact h2 c2
end
/-! ### enumerate -/
def Iten (K : PySem.W.Frag) (src : Sr) (k0 : Int) : It :=
  ⟨fun i H => ∃ (xs : List V) (x : V), src.has K H xs ∧ xs[i]? = some x, fun i H v H' => ∃ T x, v = .ref T ∧ H T = none ∧ H' = upd H T (.tup [.int (k0 + (i : Nat)), x]) ∧ ∀ xs, src.has K H xs → xs[i]? = some x, fun i H => ∃ xs : List V, src.has K H xs ∧ xs.length = i⟩
theorem turn_en {P : Program} {w : World} {K : PySem.W.Frag} {elts : List Expr} {kk : Nat} {tpos : Pos} {src : Sr} {k0 : Int} (e it : Addr) :
    Turn P w K (.Tuple elts kk tpos) (Iten K src k0) [e, it] e (fun i h => (∃ old, IsEnum h e it (k0 + (i : Nat)) old) ∧ src.At h it i ∧ e ≠ it) where
  mem := by simp
  obj := fun i h st b hb => by
    obtain ⟨⟨old, he⟩, hi, _⟩ := st
    have e' : b = e ∨ b = it := by simpa using hb
    rcases e' with z | z
    · rw [z]; exact ⟨_, he, fun v q => nomatch q⟩
    · rw [z]; exact hi.live
  keep := fun i h h' st k => let ⟨⟨old, he⟩, hi, hne⟩ := st; ⟨⟨old, k e (by simp) _ he⟩, hi.keep fun o q => k it (by simp) o q, hne⟩
  item := by
    intro X hP hw hK hc i pins s σ H E I hf st hg
    subst hP hw hK
    obtain ⟨⟨old, he⟩, hit, hne⟩ := st
    obtain ⟨xs, x, hq, hx⟩ := hg
    obtain ⟨its, rv, p⟩ := Sr.inv I hq
    obtain ⟨u, hu, ru⟩ := rv.get hx
    have hlt : i < its.toArray.size := by simpa using (List.getElem?_eq_some_iff.mp hu).1
    have hel : e < s.heap.objs.size := Heap.lt_size he
    have hil : it < s.heap.objs.size := by obtain ⟨_, q, _⟩ := hit.live; exact Heap.lt_size q
    have hes : e ≠ src.a := p.clsNe he (fun z => by injection z with z; exact absurd z (by decide)) (fun z => by injection z with z; exact absurd z (by decide))
    refine wpAny_pyNext_enum_itemC (Sr.draws (A := X.A.in1) (I.ok.hd hc) (Sr.ne hit p) its.toArray) he ⟨hit, p⟩ hlt hne (by simp [hne, hes]) fun y h' tk hy ho hst' hT hsz hk => ?_
    have ey : y = u := by rw [List.getElem?_toArray, hu] at hy; exact (Option.some.inj hy).symm
    subst ey
    refine ⟨_, rfl, wpAny_letOwnedTupleGo_enum (s := { s with heap := h', toks := tk + 1 }) ho fun h'' he' sb => ?_⟩
    have hT2 : h''.get? s.heap.objs.size = some { cls := .type "tuple", data := .seq #[.int (k0 + (i : Nat)) tk, y] } := (sb.2 _ (Nat.ne_of_gt hel)).trans hT
    have new : ObjOk X.prog X.w (upd H s.heap.objs.size (.tup [.int (k0 + (i : Nat)), x])) h'' s.heap.objs.size (.tup [.int (k0 + (i : Nat)), x]) :=
      ⟨by show 2 ≤ sizeLine; decide, [.int (k0 + (i : Nat)) tk, y], .cons ⟨_, rfl⟩ (.cons ru .nil), ⟨_, hT2, rfl, _, rfl⟩⟩
    have I1 : Inv X pins σ (upd H s.heap.objs.size (.tup [.int (k0 + (i : Nat)), x])) { s with heap := h'', toks := tk + 1 } :=
      I.turnedNew (ch := [e, it]) (fun b ob hb q => (sb.2 b (fun z => hb (by simp [z]))).trans (hk b ob (fun z => hb (by simp [z])) (fun z => hb (by simp [z])) q)) hf (Nat.le_refl _) new
    refine ⟨.ref s.heap.objs.size, _, I1, rfl, ⟨_, x, rfl, I.hok.fresh (Nat.le_refl _), rfl, fun ys hy => by rw [Sr.inj I hy hq]; exact hx⟩, ⟨⟨y, ?_⟩, hst'.1.keep fun o q => (sb.2 it (Ne.symm hne)).trans q, hne⟩, fun b hb => ?_⟩
    · rw [show k0 + ((i + 1 : Nat) : Int) = k0 + (i : Nat) + 1 by omega]; exact he'
    · have hb' : b < s.heap.objs.size := by
        have e' : b = e ∨ b = it := by simpa using hb
        rcases e' with z | z
        · rw [z]; exact hel
        · rw [z]; exact hil
      rw [upd_ne (Nat.ne_of_lt hb')]
      exact (hf b hb).1
  done := by
    intro X hP hw hK hc i pins s σ H E I hf st hg
    subst hP hw hK
    obtain ⟨⟨old, he⟩, hit, hne⟩ := st
    obtain ⟨xs, hq, hx⟩ := hg
    obtain ⟨its, rv, p⟩ := Sr.inv I hq
    obtain ⟨f0, f1, f2, f3, f4, f5⟩ := hf it (by simp)
    have hl := rv.length
    have hi : i = its.toArray.size := by rw [List.size_toArray]; omega
    subst hi
    exact wpAny_pyNext_enum_endD (Sr.draws (A := X.A.in1) (I.ok.hd hc) (Sr.ne hit p) its.toArray) he ⟨hit, p⟩ fun h' eb => ⟨rfl, I.turned (t' := s.toks) (fun b o hb q => eb b o hb q) f0 f1 f3 f4 f5⟩
  self := fun A i s Q E st h => let ⟨⟨_, he⟩, _⟩ := st; wpAny_pyIter_enum he h
set_option maxHeartbeats 4000000 in
theorem meets_en1 {v : Value} {o : Obj} {Hs : Heap → Prop} (B : Begins v o Hs) :
    Meets (Builtin.«enumerate.__new__» ⟨[.type "enumerate", v], []⟩) (fun _ R s => Hs s.heap ∧
      R (.ok (.ret (.ref (s.heap.push o).objs.size))) { s with heap := (s.heap.push o).push { cls := .type "enumerate", data := .fields #[.none, .bool false, .ref s.heap.objs.size, rawInt 0, .none, .none] } }) :=
  .of_wp fun prog w A R s h => by
    obtain ⟨hp, g, d, tk, os⟩ := s; obtain ⟨h1, h⟩ := h
    have hsub := sub_enumerate
    have begin1 : ∀ {A' : Around} {E : Value → Shared → Prop} {Q : Value → Shared → Prop}, Q (.ref hp.objs.size) ⟨hp.push o, g, d, tk, os⟩ → wpAny (model prog w) A' (pyIter v) Q E ⟨hp, g, d, tk, os⟩ :=
      fun q => B.iter prog w _ _ ⟨hp, g, d, tk, os⟩ _ h1 q
    wp_walk using begin1
    refine wpAny_stack_any fun st => wpAny_pure ?_
    split
    · rename_i c _ _ _ _ _
      cases (c == Value.type "enumerate") <;> (wp_walk using begin1; exact ⟨_, rfl, h⟩)
    · wp_walk using begin1
      exact ⟨_, rfl, h⟩
section
variable {prog : Program} {w : World} {A : Around} {E : Value → Shared → Prop} {s : Shared}
theorem call_en1 {v : Value} {o : Obj} {Hs : Heap → Prop} {Q : Value → Shared → Prop} (B : Begins v o Hs) (h1 : Hs s.heap)
    (h : ∀ h', IsEnum h' (s.heap.objs.size + 1) s.heap.objs.size 0 .none → h'.get? s.heap.objs.size = some o → (∀ b o, s.heap.get? b = some o → h'.get? b = some o) → Q (.ref (s.heap.objs.size + 1)) { s with heap := h' }) :
    wpAny (model prog w) A (call (.type "enumerate") [v]) Q E s := by
  refine callType_new F.called_enumerate (by decide) (F.typeCall_enumerate_1 _) (F.newCall_enumerate_1 _) (fun obj => F.args_object_init_2 obj _) F.entry_enumerate_new (meets_en1 B) ⟨h1, ?_⟩
  have hz : (s.heap.push o).objs.size = s.heap.objs.size + 1 := Heap.size_push ..
  show _ ∧ _
  rw [hz]
  have he := Heap.get?_push_size (s.heap.push o) (o := { cls := .type "enumerate", data := .fields #[.none, .bool false, .ref s.heap.objs.size, rawInt 0, .none, .none] }) rfl
  rw [hz] at he
  exact ⟨⟨_, he, rfl⟩, h _ he (Heap.get?_push_of_some _ (Heap.get?_push_size _ B.free)) fun b o x => Heap.get?_push_of_some _ (Heap.get?_push_of_some _ x)⟩
end
/-! ### zip -/
def Itzp (K : PySem.W.Frag) (a b : Sr) : It :=
  ⟨fun i H => ∃ (xs ys : List V) (x y : V), a.has K H xs ∧ b.has K H ys ∧ xs[i]? = some x ∧ ys[i]? = some y,
    fun i H v H' => ∃ T x y, v = .ref T ∧ H T = none ∧ H' = upd H T (.tup [x, y]) ∧ (∀ xs, a.has K H xs → xs[i]? = some x) ∧ ∀ ys, b.has K H ys → ys[i]? = some y,
    fun i H => ∃ xs ys : List V, a.has K H xs ∧ b.has K H ys ∧ i ≤ xs.length ∧ i ≤ ys.length ∧ (i = xs.length ∨ i = ys.length)⟩
theorem Sr.At.data {h : Heap} {it : Addr} {i : Nat} {src : Sr} (a : src.At h it i) : ∃ o fs, h.get? it = some o ∧ o.data = .fields fs := by
  cases src with
  | l p => obtain ⟨o, e, _, d⟩ := a; exact ⟨o, _, e, d⟩
  | t p => obtain ⟨o, e, _, d⟩ := a; exact ⟨o, _, e, d⟩
theorem turn_zp {P : Program} {w : World} {K : PySem.W.Frag} {elts : List Expr} {kk : Nat} {tpos : Pos} {a b : Sr} {z TI TO i1 i2 : Addr} (S : ZipSep2 z TI TO i1 i2 [i1, a.a] [i2, b.a]) (na : a.a ≠ i1) (nb : b.a ≠ i2) :
    Turn P w K (.Tuple elts kk tpos) (Itzp K a b) [z, TI, TO, i1, i2] z (fun i h => IsZip h z TI TO .none ∧ IsTupOf2 h TI (.ref i1) (.ref i2) ∧ (∃ x y, IsTupOf2 h TO x y) ∧ a.At h i1 i ∧ b.At h i2 i) where
  mem := by simp
  obj := fun i h st c hc => by
    obtain ⟨hz, hTI, ⟨x, y, hTO⟩, h1, h2⟩ := st
    obtain ⟨o1, f1, e1, d1⟩ := h1.data
    obtain ⟨o2, f2, e2, d2⟩ := h2.data
    have which : c = z ∨ c = TI ∨ c = TO ∨ c = i1 ∨ c = i2 := by simpa using hc
    rcases which with q | q | q | q | q <;> rw [q]
    · exact ⟨_, hz, fun v q => nomatch q⟩
    · exact ⟨_, hTI, fun v q => nomatch q⟩
    · exact ⟨_, hTO, fun v q => nomatch q⟩
    · exact ⟨o1, e1, fun v q => by rw [d1] at q; cases q⟩
    · exact ⟨o2, e2, fun v q => by rw [d2] at q; cases q⟩
  keep := fun i h h' st k => by
    obtain ⟨hz, hTI, ⟨x, y, hTO⟩, h1, h2⟩ := st
    exact ⟨k z (by simp) _ hz, k TI (by simp) _ hTI, ⟨x, y, k TO (by simp) _ hTO⟩, h1.keep fun o q => k i1 (by simp) o q, h2.keep fun o q => k i2 (by simp) o q⟩
  item := by
    intro X hP hw hK calm i pins s σ H E I hf st hg
    subst hP hw hK
    obtain ⟨hz, hTI, ⟨x0, y0, hTO⟩, h1, h2⟩ := st
    obtain ⟨xs, ys, x, y, hqx, hqy, hx, hy⟩ := hg
    obtain ⟨its, rv, p⟩ := Sr.inv I hqx
    obtain ⟨its2, rv2, p2⟩ := Sr.inv I hqy
    obtain ⟨u, hu, ru⟩ := rv.get hx
    obtain ⟨u2, hu2, ru2⟩ := rv2.get hy
    have zl : z < s.heap.objs.size := Heap.lt_size hz
    have lt1 : i < its.toArray.size := by simpa using (List.getElem?_eq_some_iff.mp hu).1
    have lt2 : i < its2.toArray.size := by simpa using (List.getElem?_eq_some_iff.mp hu2).1
    refine wpAny_pyNext_zipD2_item S (Sr.draws (A := X.A.in1) (I.ok.hd calm) na its.toArray) (Sr.draws (A := X.A.in1) (I.ok.hd calm) nb its2.toArray) hz hTI hTO ⟨h1, p⟩ ⟨h2, p2⟩ lt1 lt2 fun v1 v2 h' tk e1 e2 z' TO' s1 s2 hT hsz hk => ?_
    have g1 : v1 = u := by rw [List.getElem?_toArray, hu] at e1; exact (Option.some.inj e1).symm
    have g2 : v2 = u2 := by rw [List.getElem?_toArray, hu2] at e2; exact (Option.some.inj e2).symm
    subst g1 g2
    refine ⟨_, rfl, wpAny_letOwnedTupleGo_zip (s := { s with heap := h', toks := tk }) z' fun h'' z'' sb => ?_⟩
    have hT2 : h''.get? s.heap.objs.size = some { cls := .type "tuple", data := .seq #[v1, v2] } := (sb.2 _ (Nat.ne_of_gt zl)).trans hT
    have new : ObjOk X.prog X.w (upd H s.heap.objs.size (.tup [x, y])) h'' s.heap.objs.size (.tup [x, y]) := ⟨by show 2 ≤ sizeLine; decide, [v1, v2], .cons ru (.cons ru2 .nil), ⟨_, hT2, rfl, _, rfl⟩⟩
    have I1 : Inv X pins σ (upd H s.heap.objs.size (.tup [x, y])) { s with heap := h'', toks := tk } :=
      I.turnedNew (t' := tk) (ch := [z, TI, TO, i1, i2]) (fun c o hb q => (sb.2 c (fun q' => hb (by simp [q']))).trans (hk c o (fun q' => hb (by simp [q'])) (fun q' => hb (by simp [q'])) (fun q' => hb (by simp [q'])) (fun q' => hb (by simp [q'])) q)) hf (Nat.le_refl _) new
    refine ⟨.ref s.heap.objs.size, _, I1, rfl, ⟨_, x, y, rfl, I.hok.fresh (Nat.le_refl _), rfl, fun l hl => by rw [Sr.inj I hl hqx]; exact hx, fun l hl => by rw [Sr.inj I hl hqy]; exact hy⟩, ⟨z'', (sb.2 _ S.TIz).trans (hk _ _ S.TIz S.TITO S.TIi1 S.TIi2 hTI), ⟨v1, v2, (sb.2 _ S.TOz).trans TO'⟩, s1.1.keep fun o q => (sb.2 _ (Ne.symm S.zi1)).trans q, s2.1.keep fun o q => (sb.2 _ (Ne.symm S.zi2)).trans q⟩, fun c hcm => ?_⟩
    have hlt : c < s.heap.objs.size := by
      obtain ⟨o1, f1, e1, _⟩ := h1.data
      obtain ⟨o2, f2, e2, _⟩ := h2.data
      have which : c = z ∨ c = TI ∨ c = TO ∨ c = i1 ∨ c = i2 := by simpa using hcm
      rcases which with q | q | q | q | q <;> rw [q]
      · exact zl
      · exact Heap.lt_size hTI
      · exact Heap.lt_size hTO
      · exact Heap.lt_size e1
      · exact Heap.lt_size e2
    rw [upd_ne (Nat.ne_of_lt hlt)]
    exact (hf c hcm).1
  done := by
    intro X hP hw hK calm i pins s σ H E I hf st hg
    subst hP hw hK
    obtain ⟨hz, hTI, ⟨x0, y0, hTO⟩, h1, h2⟩ := st
    obtain ⟨xs, ys, hqx, hqy, le1, le2, over⟩ := hg
    obtain ⟨its, rv, p⟩ := Sr.inv I hqx
    obtain ⟨its2, rv2, p2⟩ := Sr.inv I hqy
    have l1 := rv.length
    have l2 := rv2.length
    exact wpAny_pyNext_zipD2_end S (Sr.draws (A := X.A.in1) (I.ok.hd calm) na its.toArray) (Sr.draws (A := X.A.in1) (I.ok.hd calm) nb its2.toArray) hz hTI hTO ⟨h1, p⟩ ⟨h2, p2⟩ (by rw [List.size_toArray]; omega) (by rw [List.size_toArray]; omega) (by rw [List.size_toArray, List.size_toArray]; omega)
      fun h' tk hk => ⟨rfl, I.turnedL (t' := tk) (ch := [z, TI, TO, i1, i2]) (fun c o hb q => hk c o (fun q' => hb (by simp [q'])) (fun q' => hb (by simp [q'])) (fun q' => hb (by simp [q'])) (fun q' => hb (by simp [q'])) q) hf⟩
  self := fun A i s Q E st h => wpAny_pyIter_zip st.1 h
/-! ### the calls -/
section
variable {X : Cx} {G : Nat → Option Addr} {W : WX} {a b : Expr} {p pos tpos : Pos} {elts : List Expr} {kk : Nat} {ta : TA}
theorem Sr.lt {pins : List (Addr × Obj)} {σ : L2.St} {H : Hp} {s : Shared} {src : Sr} {its : Array Value} (h : src.Is s.heap its) : src.a < s.heap.objs.size := by
  cases src with
  | l q => obtain ⟨o, e, _⟩ := h; exact Heap.lt_size e
  | t q => obtain ⟨o, e, _⟩ := h; exact Heap.lt_size e
theorem pi_en (hg : Gl X "enumerate") (hm : X.mg "enumerate" = none) (ha : PA X [a] ta) (hs : starEach [a] X.env = [(false, eval a X.env)] := by rfl) :
    PI X (.Tuple elts kk tpos) (.Call (.Name "enumerate" p) [a] [] pos) (fun σ H R => ta σ H fun vs H1 => ∃ (src : Sr) (xs : List V), vs = [.ref src.a] ∧ src.has X.K H1 xs ∧ R (Iten X.K src 0) H1) := by
  refine ⟨fun pins s σ H R I h => ?_⟩
  refine Call_ (ld_blt I hg hm boot_enumerate (PyProof.Rows.callWith_type1 (thn (ha.run pos pins s σ H _ I h) fun us s1 ⟨vs, H1, I1, r1, src, xs, ex, hq, q⟩ => ?_) hs rfl))
  subst ex
  obtain rfl := Vals.ref1 r1
  obtain ⟨its, rv, is⟩ := Sr.inv I1 hq
  refine call_en1 (Sr.begins its.toArray) is fun h' he hit hk => wpAny_pyIter_enum he ?_
  have I2 : Inv X pins σ H1 { s1 with heap := h' } := I1.kept (t' := s1.toks) hk
  refine ⟨s1.heap.objs.size + 1, [s1.heap.objs.size + 1, s1.heap.objs.size], _, _, H1, rfl, I2, turn_en (src := src) (k0 := 0) (s1.heap.objs.size + 1) s1.heap.objs.size, ⟨⟨.none, he⟩, Sr.At.start hit, Nat.succ_ne_self _⟩, fun b hb => ?_, q⟩
  have which : b = s1.heap.objs.size + 1 ∨ b = s1.heap.objs.size := by simpa using hb
  have hle : s1.heap.objs.size ≤ b := by
    rcases which with z | z
    · rw [z]; exact Nat.le_add_right _ _
    · rw [z]; exact Nat.le_refl _
  exact I1.fpOk hle (I1.hok.fresh hle)
theorem pi_zp (hg : Gl X "zip") (hm : X.mg "zip" = none) (ha : PA X [a, b] ta) (hs : starEach [a, b] X.env = (false, eval a X.env) :: starEach [b] X.env := by rfl) (hpl : (backTo pos (starEach [b] X.env)).any (·.1) = false := by rfl) :
    PI X (.Tuple elts kk tpos) (.Call (.Name "zip" p) [a, b] [] pos) (fun σ H R => ta σ H fun vs H1 => ∃ (sa sb : Sr) (xs ys : List V), vs = [.ref sa.a, .ref sb.a] ∧ sa.has X.K H1 xs ∧ sb.has X.K H1 ys ∧ R (Itzp X.K sa sb) H1) := by
  refine ⟨fun pins s σ H R I h => ?_⟩
  refine Call_ (ld_blt I hg hm boot_zip (PyProof.Rows.callWith_type1 (thn (ha.run pos pins s σ H _ I h) fun us s1 ⟨vs, H1, I1, r1, sa, sb, xs, ys, ex, hq1, hq2, q⟩ => ?_) hs hpl))
  subst ex
  obtain ⟨u1, u2, rfl, t1, t2⟩ := vals2 r1
  cases t1
  cases t2
  obtain ⟨its, rv, is1⟩ := Sr.inv I1 hq1
  obtain ⟨its2, rv2, is2⟩ := Sr.inv I1 hq2
  have la := Sr.lt (pins := pins) (σ := σ) (H := H1) is1
  have lb := Sr.lt (pins := pins) (σ := σ) (H := H1) is2
  refine zip_begins2 (Sr.begins its.toArray) (Sr.begins its2.toArray) is1 is2 fun h' z TI TO e1 e2 sz hk => wpAny_pyIter_zip z ?_
  have I2 : Inv X pins σ H1 { s1 with heap := h' } := I1.kept (t' := s1.toks) hk
  refine ⟨s1.heap.objs.size + 4, [s1.heap.objs.size + 4, s1.heap.objs.size + 2, s1.heap.objs.size + 3, s1.heap.objs.size, s1.heap.objs.size + 1], _, _, H1, rfl, I2,
    turn_zp (a := sa) (b := sb) (zip_sep2 (N := s1.heap.objs.size) (fp1 := [sa.a]) (fp2 := [sb.a]) (fun c hc => by rw [List.mem_singleton.mp hc]; exact la) (fun c hc => by rw [List.mem_singleton.mp hc]; exact lb)) (Nat.ne_of_lt la) (Nat.ne_of_lt (Nat.lt_succ_of_lt lb)),
    ⟨z, TI, ⟨_, _, TO⟩, Sr.At.start e1, Sr.At.start e2⟩, fun b hb => ?_, q⟩
  have hle : s1.heap.objs.size ≤ b := by
    have which : b = s1.heap.objs.size + 4 ∨ b = s1.heap.objs.size + 2 ∨ b = s1.heap.objs.size + 3 ∨ b = s1.heap.objs.size ∨ b = s1.heap.objs.size + 1 := by simpa using hb
    rcases which with z | z | z | z | z <;> rw [z]
    · exact Nat.le_add_right _ _
    · exact Nat.le_add_right _ _
    · exact Nat.le_add_right _ _
    · exact Nat.le_refl _
    · exact Nat.le_add_right _ _
  exact I1.fpOk hle (I1.hok.fresh hle)
/-! ### ours -/
def zsOf (h : MH) : D → Option ZS
  | .tup xs => some (.t xs)
  | .ref i => match h.seq i with
    | some xs => some (.l i xs.length)
    | none => none
  | _ => none
def iEnA (ms : Ma) : Mi := fun env h => (ms env h).bind fun vs h1 => match vs with
  | [x] => match zsOf h1 x with
    | some s => .ok (.enk s 0) h1
    | none => .bad
  | _ => .bad
def iZpA (ms : Ma) : Mi := fun env h => (ms env h).bind fun vs h1 => match vs with
  | [x, y] => match zsOf h1 x, zsOf h1 y with
    | some s, some t => .ok (.zp s t) h1
    | _, _ => .bad
  | _ => .bad
/-- a source of ours and one of the text's -/
def RZs (K : PySem.W.Frag) (G : Nat → Option Addr) (ρ : List Addr) (H : Hp) (z : ZS) (src : Sr) : Prop := match z, src with
  | .l i _, .l a => ρ[i]? = some a
  | .t xs, .t a => ∃ ys, SqT K H a ys ∧ RDs K G ρ H xs ys
  | _, _ => False
theorem RZs.items {K : PySem.W.Frag} {ρ ρ' : List Addr} {H H' : Hp} {z : ZS} {src : Sr} {h : MH} {xs : List D} (r : RZs K G ρ H z src) (f : Fut K ρ H ρ' H') (R : Rel K G ρ' h H') (e : z.items h = some xs) : ∃ ys, src.has K H' ys ∧ RDs K G ρ' H' xs ys ∧ ys.length = z.n := by
  cases z with
  | l i n =>
    cases src with
    | l a =>
      obtain ⟨a', ys, h1, h2, h3, h4⟩ := seqN_of R e
      rw [f.at r] at h1; cases h1
      exact ⟨ys, h2, h3, h4⟩
    | t a => exact r.elim
  | t zs =>
    cases src with
    | l a => exact r.elim
    | t a =>
      cases e
      obtain ⟨ys, h1, h2⟩ := r
      exact ⟨ys, f.tup _ _ h1, h2.fut f, by rw [← h2.length]; rfl⟩
theorem RZs.see {K : PySem.W.Frag} {ρ ρ' : List Addr} {H H' : Hp} {z : ZS} {src : Sr} {h : MH} {xs : List D} (r : RZs K G ρ H z src) (f : Fut K ρ H ρ' H') (R : Rel K G ρ' h H') (e : z.see h = some xs) : ∃ ys, src.has K H' ys ∧ RDs K G ρ' H' xs ys := by
  cases z with
  | l i n =>
    cases src with
    | l a =>
      obtain ⟨a', ys, h1, h2, h3⟩ := R.seq e
      rw [f.at r] at h1; cases h1
      exact ⟨ys, h2, h3⟩
    | t a => exact r.elim
  | t zs =>
    cases src with
    | l a => exact r.elim
    | t a =>
      cases e
      obtain ⟨ys, h1, h2⟩ := r
      exact ⟨ys, f.tup _ _ h1, h2.fut f⟩
theorem zs_rd {K : PySem.W.Frag} {ρ : List Addr} {H : Hp} {h : MH} {x : D} {v : V} {z : ZS} (R : Rel K G ρ h H) (r : RD K G ρ H x v) (e : zsOf h x = some z) : ∃ src : Sr, v = .ref src.a ∧ RZs K G ρ H z src ∧ ∃ xs, src.has K H xs := by
  cases r with
  | tup sa da => cases e; exact ⟨.t _, rfl, ⟨_, sa, da⟩, _, sa⟩
  | @ref i a ha =>
    unfold zsOf at e
    simp only at e
    split at e
    · rename_i xs es
      cases e
      obtain ⟨a1, ys, p1, p2, p3⟩ := R.seq es
      rw [ha] at p1; cases p1
      exact ⟨.l _, rfl, ha, _, p2⟩
    · cases e
  | _ => cases e
theorem rit_en {K : PySem.W.Frag} {ρ0 : List Addr} {H0 : Hp} {z : ZS} {src : Sr} {k0 : Int} (e : RZs K G ρ0 H0 z src) : RIt K G ρ0 H0 (.enk z k0) (Iten K src k0) := by
  intro k ρ h H f R
  refine ⟨fun d hk ed => ?_, fun ef => ?_⟩
  · simp only [MI.at] at ed
    split at ed
    · rename_i xs es
      rw [Option.map_eq_some_iff] at ed
      obtain ⟨y, ey, rfl⟩ := ed
      obtain ⟨ys, h1, h2⟩ := e.see f R es
      obtain ⟨v, g1, g2⟩ := h2.get ey
      refine ⟨⟨ys, v, h1, g1⟩, fun x H' hy => ?_⟩
      obtain ⟨T, x1, rfl, nT, rfl, hx⟩ := hy
      have := hx ys h1
      rw [g1] at this; cases this
      exact new_tup R nT (.cons (.int _) (.cons g2 .nil))
    · cases ed
  · simp only [MI.fin, Option.isSome_iff_exists] at ef
    obtain ⟨xs, es⟩ := ef
    obtain ⟨ys, h1, h2, h3⟩ := e.items f R es
    exact ⟨ys, h1, h3⟩
theorem rit_zp {K : PySem.W.Frag} {ρ0 : List Addr} {H0 : Hp} {z z' : ZS} {src src' : Sr} (e : RZs K G ρ0 H0 z src) (e' : RZs K G ρ0 H0 z' src') : RIt K G ρ0 H0 (.zp z z') (Itzp K src src') := by
  intro k ρ h H f R
  refine ⟨fun d hk ed => ?_, fun ef => ?_⟩
  · simp only [MI.at] at ed
    split at ed
    · rename_i xs ys es es'
      split at ed
      · rename_i x y ex ey
        cases ed
        obtain ⟨us, h1, h2⟩ := e.see f R es
        obtain ⟨ws, h4, h5⟩ := e'.see f R es'
        obtain ⟨u, g1, g2⟩ := h2.get ex
        obtain ⟨v, g3, g4⟩ := h5.get ey
        refine ⟨⟨us, ws, u, v, h1, h4, g1, g3⟩, fun x H' hy => ?_⟩
        obtain ⟨T, x1, x2, rfl, nT, rfl, q1, q2⟩ := hy
        have z1 := q1 us h1
        have z2 := q2 ws h4
        rw [g1] at z1; cases z1
        rw [g3] at z2; cases z2
        exact new_tup R nT (.cons g2 (.cons g4 .nil))
      · cases ed
    · cases ed
  · simp only [MI.fin, Bool.and_eq_true, Option.isSome_iff_exists] at ef
    obtain ⟨⟨xs, es⟩, ys, es'⟩ := ef
    obtain ⟨us, h1, _, h3⟩ := e.items f R es
    obtain ⟨ws, h4, _, h6⟩ := e'.items f R es'
    refine ⟨us, ws, h1, h4, ?_⟩
    have hn : (MI.zp z z').n = min z.n z'.n := rfl
    rw [hn]
    omega
theorem mi_enA {ms : Ma} (hg : Gl X "enumerate") (hm : X.mg "enumerate" = none) (ha : PA X [a] (RdA X.K G W ms)) (hs : starEach [a] X.env = [(false, eval a X.env)] := by rfl) :
    PI X (.Tuple elts kk tpos) (.Call (.Name "enumerate" p) [a] [] pos) (RdI X.K G W (iEnA ms)) := by
  refine PI.imp (pi_en hg hm ha hs) fun σ H Q q => ?_
  obtain ⟨ρ, h, env, r, re, w⟩ := q
  refine ⟨ρ, h, env, r, re, Wp.bind w fun vs h1 ρ1 H1 us f1 r1 q1 w1 => ?_⟩
  split at w1
  · rename_i x
    cases ez : zsOf h1 x with
    | none => rw [ez] at w1; exact w1.elim
    | some z =>
      rw [ez] at w1
      cases q1 with
      | cons b1 b2 =>
        cases b2
        obtain ⟨src, rfl, rz, xs, hx⟩ := zs_rd r1 b1 ez
        exact ⟨src, xs, rfl, hx, w1.ret r1 (rit_en rz)⟩
  · exact w1.elim
theorem mi_zpA {ms : Ma} (hg : Gl X "zip") (hm : X.mg "zip" = none) (ha : PA X [a, b] (RdA X.K G W ms)) (hs : starEach [a, b] X.env = (false, eval a X.env) :: starEach [b] X.env := by rfl) (hpl : (backTo pos (starEach [b] X.env)).any (·.1) = false := by rfl) :
    PI X (.Tuple elts kk tpos) (.Call (.Name "zip" p) [a, b] [] pos) (RdI X.K G W (iZpA ms)) := by
  refine PI.imp (pi_zp hg hm ha hs hpl) fun σ H Q q => ?_
  obtain ⟨ρ, h, env, r, re, w⟩ := q
  refine ⟨ρ, h, env, r, re, Wp.bind w fun vs h1 ρ1 H1 us f1 r1 q1 w1 => ?_⟩
  split at w1
  · rename_i x y
    split at w1
    · rename_i z z' ez ez'
      cases q1 with
      | cons b1 b2 =>
        cases b2 with
        | cons b2 b3 =>
          cases b3
          obtain ⟨src, rfl, rz, xs, hx⟩ := zs_rd r1 b1 ez
          obtain ⟨src', rfl, rz', ys, hy⟩ := zs_rd r1 b2 ez'
          exact ⟨src, src', xs, ys, rfl, hx, hy, w1.ret r1 (rit_zp rz rz')⟩
    · exact w1.elim
  · exact w1.elim
end
end MM

set_option Elab.async false
set_option linter.all false
set_option maxRecDepth 100000
set_option maxHeartbeats 4000000
set_option autoImplicit false
/-! list of a dict -/
namespace MM
open PySem PySem.Spec PyProof.Rows L2
def listA (ds : List D) (h : MH) : Option (D × MH) := match listF ds h with
  | some r => some r
  | none => match ds with
    | [.ref i] => match h.get i with
      | some (.dct kvs) => some (.ref h.n, h.add (.lst (kvs.map fun p => keyD p.1)))
      | some (.dt ks) => some (.ref h.n, h.add (.lst (ks.map fun p => p.1)))
      | _ => none
    | _ => none
/-- the keys of any dict, as a source of list(..) -/
theorem kdlRaw {prog : Program} {w : World} {d : Addr} {o : Obj} {es : Array DictEntry} {ep : Nat} (lo : (d == sysModules) = false) (hx : o.ExactDict) (hdt : o.data = .dict es ep) :
    PySem.W.KdlSrc prog w "dict" d d es.size (fun i v => ∃ en, es[i]? = some en ∧ en.key = v) (fun h => h.get? d = some o) where
  type := fun s hm => ⟨o, hm, hx.1⟩
  there := fun h hm => ⟨Heap.lt_size hm, Heap.lt_size hm⟩
  keep := fun h h' hm hk => hk d (.inl rfl) o hm
  notList := by decide
  notTuple := by decide
  hint := fun A E s Q hm hq => PySem.W.kdl_hint_dict ⟨o, hm, hx.1⟩ hq
  iter := fun A s hh hm => ⟨_, fun i h => h.IsKeyIter s.heap.objs.size d i es.size ep ∧ h.get? d = some o, (fun E Q hq => iter_keys lo hm hx hdt hq),
    { sub := fun b hb => by simp at hb; simp [hb]
      frame := fun _ _ _ st hk => ⟨st.1.at fun o e => hk _ (by simp) o e, hk d (by simp) o st.2⟩
      item := fun i s1 Q E hi st hQ => by
        have hne : d ≠ s.heap.objs.size := Nat.ne_of_lt (Heap.lt_size hm)
        obtain ⟨en, hen⟩ : ∃ en, es[i]? = some en := ⟨es[i], by simp [hi]⟩
        refine next_key_item st.1 st.2 hdt rfl hen fun h' st' sb => ?_
        exact hQ en.key h' s1.toks ⟨en, hen, rfl⟩ ⟨st', sb.extBut d o hne st.2⟩ fun b o hb e => sb.extBut b o (fun h => hb (by simp [h])) e
      done := fun s1 Q E st hQ => next_key_end hh st.1 st.2 hdt rfl (Nat.le_refl _) fun h' he' => hQ h' s1.toks fun b o hb e => he' b o (fun h => hb (by simp [h])) e
      self := fun _ _ _ _ st hQ => wpAny_pyIter_keyiter st.1 hQ },
    ⟨⟨_, Heap.get?_push_size _ rfl, rfl, rfl⟩, Heap.get?_push_of_some _ hm⟩⟩
section
variable {X : Cx} {G : Nat → Option Addr}
theorem keys_rd {K : PySem.W.Frag} {ρ : List Addr} {H : Hp} : ∀ {ks : List (Key × D)} {vs : List (Key × V)}, RFs K G ρ H ks vs → RDs K G ρ H (ks.map fun p => keyD p.1) (vs.map fun p => kV p.1)
  | _, _, .nil => .nil
  | _, _, .cons a b => .cons (keyD_rd _) (keys_rd b)
theorem tkeys_rd {K : PySem.W.Frag} {ρ : List Addr} {H : Hp} : ∀ {ks : List (D × D)} {vs : List (NestedKey × Addr × V)}, RKs K G ρ H ks vs → RDs K G ρ H (ks.map fun p => p.1) (vs.map fun y => V.ref y.2.1)
  | _, _, .nil => .nil
  | _, _, .cons e a b c => .cons a (tkeys_rd c)
theorem call_list_dt (hc : X.calm = true) {pins : List (Addr × Obj)} {s : Shared} {σ : L2.St} {H : Hp} {us : List Value} {Q : VK} {p : Addr} {vs : List (NestedKey × Addr × V)} (I : Inv X pins σ H s) (r : Vals [V.ref p] us) (hk : H p = some (dtO p vs)) (ok : DtOk p vs)
    (q : ∀ q, H q = none → Q (.ref q) (upd H q (.lst (vs.map fun y => V.ref y.2.1)))) : wpAny (model X.prog X.w) X.A (call (.type "list") us) (EP X pins σ Q) X.xe s := by
  obtain ⟨u, eu, rx⟩ := vals1 r
  subst eu
  obtain rfl : u = Value.ref p := rx
  obtain ⟨⟨o, es, ep, ws, h1, h2, h3, h4, h5⟩, _, _⟩ := (show ObjOk X.prog X.w H s.heap p (dtO p vs) from I.hok p _ hk)
  have hl : ws.length = vs.length := by rw [← h4.length, List.length_map]
  have hsz : es.size = vs.length := by rw [← Array.length_toList, h5, List.length_zipWith, hl, Nat.min_self]
  refine PySem.W.kdl_call (kdlRaw ok.low h2 h3) (I.ok.hd hc) h1 (by rw [hsz]; exact ok.len) fun h' tk acc' c' hkeep hS hacc => ?_
  refine ⟨.ref s.heap.objs.size, upd H s.heap.objs.size (.lst (vs.map fun y => V.ref y.2.1)), I.laid hkeep (Nat.le_refl _) (show ObjOk X.prog X.w _ _ _ (.lst (vs.map fun y => V.ref y.2.1)) from ⟨?_, acc'.toList, c', ?_, ?_⟩), rfl, q _ (I.hok.fresh (Nat.le_refl _))⟩
  · rw [List.length_map]; exact ok.len
  · have el : acc'.toList.length = acc'.size := by simp
    refine vals_of_at (by rw [List.length_map, el, hacc.1, hsz]) fun j x w h1' h2' => ?_
    obtain ⟨en, he, hi⟩ := hacc.2 j w (by rw [← Array.getElem?_toList]; exact h2')
    rw [List.getElem?_map, Option.map_eq_some_iff] at h1'
    obtain ⟨y, hy, rfl⟩ := h1'
    have hj : j < vs.length := (List.getElem?_eq_some_iff.mp hy).1
    have hw : ws[j]? = some (ws[j]'(by omega)) := List.getElem?_eq_getElem _
    rw [← Array.getElem?_toList, h5, List.getElem?_zipWith, hy, hw] at he
    cases he
    exact hi.symm
  · rw [Array.toArray_toList]; exact hS
theorem ok_listA (hc : X.calm = true) : CallOK X G (.type "list") listA := by
  intro pins s σ H vs us Q I r q
  obtain ⟨ρ, h, ds, w, h', R, rs, e, k⟩ := q
  unfold listA at e
  split at e
  · rename_i p ep
    cases e
    exact ok_list pins s σ H vs us Q I r ⟨ρ, h, ds, w, h', R, rs, ep, k⟩
  · split at e
    · rename_i i _
      split at e
      · rename_i kvs g
        cases e
        obtain ⟨a, e1, ws, e2, e3⟩ := R.ob _ _ g
        cases rs with
        | cons r1 r2 =>
          cases r2
          cases r1 with
          | ref ha =>
            rw [ha] at e1; cases e1
            refine call_list_dK hc pins s σ H _ us Q I r ⟨_, ws, rfl, e2, fun q hq => ?_⟩
            obtain ⟨f2, r2, q2⟩ := new_lst R hq (keys_rd e3)
            exact k _ _ _ f2 r2 q2
      · rename_i ks g
        cases e
        obtain ⟨a, e1, ws, e2, e3, e4⟩ := R.ob _ _ g
        cases rs with
        | cons r1 r2 =>
          cases r2
          cases r1 with
          | ref ha =>
            rw [ha] at e1; cases e1
            refine call_list_dt hc I r e2 e3 fun q hq => ?_
            obtain ⟨f2, r2, q2⟩ := new_lst R hq (tkeys_rd e4)
            exact k _ _ _ f2 r2 q2
      · cases e
    · cases e
end
/-! ### sum of a tuple; min, max of a list -/
def sumA (ds : List D) (h : MH) : Option (D × MH) := match ds with
  | [.tup xs] => (intsD xs).map fun ns => (.int ns.sum, h)
  | ds => sumF ds h
def minL : List Int → Int
  | [] => 0
  | [x] => x
  | x :: r => bif decide (minL r < x) then minL r else x
def maxL : List Int → Int
  | [] => 0
  | [x] => x
  | x :: r => bif decide (x < maxL r) then maxL r else x
theorem minL_spec : ∀ {ns : List Int}, ns ≠ [] → minL ns ∈ ns ∧ ∀ y ∈ ns, minL ns ≤ y
  | [x], _ => ⟨by simp [minL], fun y hy => by simp at hy; subst hy; simp [minL]⟩
  | x :: z :: r, _ => by
    obtain ⟨h1, h2⟩ := minL_spec (ns := z :: r) (by simp)
    unfold minL
    by_cases q : minL (z :: r) < x
    · rw [decide_eq_true q, cond_true]
      exact ⟨List.mem_cons_of_mem _ h1, fun y hy => by
        rcases List.mem_cons.mp hy with rfl | hy
        · omega
        · exact h2 y hy⟩
    · rw [decide_eq_false q, cond_false]
      exact ⟨List.mem_cons_self, fun y hy => by
        rcases List.mem_cons.mp hy with rfl | hy
        · omega
        · have := h2 y hy; omega⟩
theorem maxL_spec : ∀ {ns : List Int}, ns ≠ [] → maxL ns ∈ ns ∧ ∀ y ∈ ns, y ≤ maxL ns
  | [x], _ => ⟨by simp [maxL], fun y hy => by simp at hy; subst hy; simp [maxL]⟩
  | x :: z :: r, _ => by
    obtain ⟨h1, h2⟩ := maxL_spec (ns := z :: r) (by simp)
    unfold maxL
    by_cases q : x < maxL (z :: r)
    · rw [decide_eq_true q, cond_true]
      exact ⟨List.mem_cons_of_mem _ h1, fun y hy => by
        rcases List.mem_cons.mp hy with rfl | hy
        · omega
        · exact h2 y hy⟩
    · rw [decide_eq_false q, cond_false]
      exact ⟨List.mem_cons_self, fun y hy => by
        rcases List.mem_cons.mp hy with rfl | hy
        · omega
        · have := h2 y hy; omega⟩
def minA (ds : List D) (h : MH) : Option (D × MH) := match ds with
  | [.ref i] => match (h.seq i).bind intsD with
    | some (n :: ns) => some (.int (minL (n :: ns)), h)
    | _ => none
  | ds => minF ds h
def maxA (ds : List D) (h : MH) : Option (D × MH) := match ds with
  | [.ref i] => match (h.seq i).bind intsD with
    | some (n :: ns) => some (.int (maxL (n :: ns)), h)
    | _ => none
  | ds => maxF ds h
section
variable {X : Cx} {G : Nat → Option Addr}
theorem ok_sumA (hc : X.calm = true) : CallOK X G (.builtin "sum") sumA := by
  intro pins s σ H vs us Q I r q
  obtain ⟨ρ, h, ds, w, h', R, rs, e, k⟩ := q
  unfold sumA at e
  split at e
  · rename_i xs
    rw [Option.map_eq_some_iff] at e
    obtain ⟨ns, e, e'⟩ := e
    cases e'
    cases rs with
    | cons r1 r2 =>
      cases r2
      cases r1 with
      | tup sa da =>
        have hv := intsV da e
        subst hv
        rw [Vals.ref1 r]
        obtain ⟨its, rv, p, _⟩ := I.tuple sa
        have hi := rv.ints
        obtain ⟨zs, ez⟩ := hi.allInts.items
        have hn : numsOf (intItems zs).toList = ns := by rw [← ez]; exact hi.numsOf
        rw [nums_intItems] at hn
        refine PySem.W.ktm_sumG (xs := zs) (I.ok.hd hc) (by rw [← ez]; exact p) fun h' tk t' hk => ?_
        rw [preSum_eq, List.take_of_length_le (by simp), hn]
        exact ⟨.int _, H, I.kept hk, ⟨_, rfl⟩, k ρ H _ .refl R (.int _)⟩
  · exact ok_sum hc pins s σ H vs us Q I r ⟨ρ, h, _, w, h', R, rs, e, k⟩
theorem ok_minA (hc : X.calm = true) : CallOK X G (.builtin "min") minA := by
  intro pins s σ H vs us Q I r q
  obtain ⟨ρ, h, ds, w, h', R, rs, e, k⟩ := q
  unfold minA at e
  split at e
  · rename_i i
    split at e
    · rename_i n ns eb
      cases e
      obtain ⟨xs, e1, e2⟩ := Option.bind_eq_some_iff.mp eb
      obtain ⟨a1, ys, p1, p2, p3⟩ := R.seq e1
      cases rs with
      | cons r1 r2 =>
        cases r2
        cases r1 with
        | ref ha =>
          rw [ha] at p1; cases p1
          rw [intsV p3 e2] at p2
          obtain ⟨m1, m2⟩ := minL_spec (ns := n :: ns) (by simp)
          refine cr_min hc pins s σ H _ us Q I r ⟨_, n :: ns, rfl, p2, by simp, fun m hm hle => ?_⟩
          have : m = minL (n :: ns) := by have a := hle _ m1; have b := m2 _ hm; omega
          rw [this]
          exact k ρ H _ .refl R (.int _)
    · cases e
  · exact ok_min hc pins s σ H vs us Q I r ⟨ρ, h, _, w, h', R, rs, e, k⟩
theorem ok_maxA (hc : X.calm = true) : CallOK X G (.builtin "max") maxA := by
  intro pins s σ H vs us Q I r q
  obtain ⟨ρ, h, ds, w, h', R, rs, e, k⟩ := q
  unfold maxA at e
  split at e
  · rename_i i
    split at e
    · rename_i n ns eb
      cases e
      obtain ⟨xs, e1, e2⟩ := Option.bind_eq_some_iff.mp eb
      obtain ⟨a1, ys, p1, p2, p3⟩ := R.seq e1
      cases rs with
      | cons r1 r2 =>
        cases r2
        cases r1 with
        | ref ha =>
          rw [ha] at p1; cases p1
          rw [intsV p3 e2] at p2
          obtain ⟨m1, m2⟩ := maxL_spec (ns := n :: ns) (by simp)
          refine cr_max hc pins s σ H _ us Q I r ⟨_, n :: ns, rfl, p2, by simp, fun m hm hle => ?_⟩
          have : m = maxL (n :: ns) := by have a := hle _ m1; have b := m2 _ hm; omega
          rw [this]
          exact k ρ H _ .refl R (.int _)
    · cases e
  · exact ok_max hc pins s σ H vs us Q I r ⟨ρ, h, _, w, h', R, rs, e, k⟩
end
end MM

set_option Elab.async false
set_option linter.all false
set_option maxRecDepth 100000
set_option maxHeartbeats 4000000
set_option autoImplicit false
/-! defs with defaults of positional parameters -/
namespace MM
open PySem PySem.Spec PyProof.Rows L2

structure FunV (K : PySem.W.Frag) (x qual : Str) (st : Stmt) (f : Addr) (fd : FuncData) : Prop where
  ex : ∃ (oc : Value) (od : Option Addr) (dV kV doc pm : Value) (an : Option Addr) (cdv ct : Value) (osl : Array (Option Value)),
    fd = PySem.W.fnOf x qual (defArgs st) (defBody st) (defScope st) dV kV doc pm an cdv ct ∧ K.lookup f = some ⟨oc, od, .func fd, osl⟩ ∧ PySem.W.codeIn K cdv qual = true
  kp : PySem.W.keepIn K (.ref f) = true
section
variable {P : Program} {w : World} {K : PySem.W.Frag} {mg : Str → Option Value} {base : Heap} {G : Nat → Option Addr}
theorem funv_mk {x qual : Str} {st : Stmt} {f : Addr} {oc : Value} {od an : Option Addr} {osl : Array (Option Value)} {dV kV doc pm cdv ct : Value} (l : K.lookup f = some ⟨oc, od, .func (PySem.W.fnOf x qual (defArgs st) (defBody st) (defScope st) dV kV doc pm an cdv ct), osl⟩)
    (c : PySem.W.codeIn K cdv qual = true) (k : PySem.W.keepIn K (.ref f) = true) : FunV K x qual st f (PySem.W.fnOf x qual (defArgs st) (defBody st) (defScope st) dV kV doc pm an cdv ct) := ⟨⟨oc, od, dV, kV, doc, pm, an, cdv, ct, osl, rfl, l, c⟩, k⟩
theorem defGV {x qual : Str} {st : Stmt} {f : Addr} {fd : FuncData} {N ps : List Str} {k : Nat} {sp : Sp} (F : FunV K x qual st f fd) (S : FnScope N ps (defScope st)) (len : ∀ vs H Q E, sp vs H Q E → vs.length = ps.length)
    (hbody : ∀ (cdv : Value) (A : Around) (outer : List Env) (s : Shared) (H : Hp) (vs : List V) (Q : VK) (E : XK), Room k (A.deeper (envOfC qual (defScope st) s.heap.objs.size f cdv)) → A.guards = some [] → sp vs H Q E →
      ∃ t, PSs (cxOf (L2.CX P w) P w K mg base N qual (defScope st) f cdv A outer s H E) (defBody st) t ∧ t { nx := fun _ H' => Q .non H', rt := Q } (start N vs) H) : FnG P w K mg base (k + 1) f fd ps sp := by
  obtain ⟨oc, od, dV, kV, doc, pm, an, cdv, ct, osl, rfl, lk, hcd⟩ := F.ex
  refine ⟨len, fun A outer s H args us vs Q E hr hgd e0 hb r hsp => ?_⟩
  have hl := len _ _ _ _ hsp
  have old : ∀ b o, base.get? b = some o → s.heap.get? b = some o := fun b o e => (e0.bs b o e).1
  have KX : K.In s.heap := e0.mod.kin.keeps old
  have names : ∀ y ∈ ps.zip us, (defScope st).names.lookup y.1 = some .local ∨ ((defScope st).names.lookup y.1 = some .cell ∧ ((cellsFrom (s.heap.objs.size + 1) (defScope st).names []).lookup y.1).isSome = true) := by
    rintro ⟨n, v⟩ hy
    exact (S.par n (List.of_mem_zip hy).1).imp id fun q => ⟨q, PySem.W.cellsFrom_some _ _ _ (.inl q)⟩
  refine codeAny_call_function hr.depth (KX _ _ lk) rfl S.co S.gen rfl (PySem.W.codeRec_of KX hcd) (hb _ _ _ _ ?_)
  refine wpAny_newFunctionEnv_cells S.kind names fun env he s1 x => ?_
  subst he
  refine ⟨(e0.mod.nolimit.keeps old).keeps x.toInCall.keep, codeAny_func ?_⟩
  obtain ⟨t, ht, hq⟩ := hbody cdv A outer s H vs Q E (hr.deeper _) hgd hsp
  have I := inv_start (CX := L2.CX P w) (w := w) (E := E) (f := f) (cd := cdv) S hr.hd e0 hl r x
  refine wpAny_mono (ht.run [] s1 (start N vs) H _ I hq) (fun fl s' hs => ?_) fun e s' hs => hs
  cases fl with
  | ret u => obtain ⟨v, σ', H', J, rv, q⟩ := hs; exact ⟨v, H', J.os, J.bare, J.base, J.hok, rv, q⟩
  | next => obtain ⟨σ', H', J, q⟩ := hs; exact ⟨.non, H', J.os, J.bare, J.base, J.hok, rfl, q⟩
  | brk => obtain ⟨_, _, _, q⟩ := hs; exact q.elim
  | cont => obtain ⟨_, _, _, q⟩ := hs; exact q.elim
theorem defMV {x qual : Str} {st : Stmt} {f : Addr} {fd : FuncData} {N ps : List Str} {k : Nat} {body : Ms} (F : FunV K x qual st f fd) (S : FnScope N ps (defScope st)) (n m : Nat) (hn : N.length = n) (hm : ps.length = m)
    (hb : ∀ (cdv : Value) (A : Around) (outer : List Env) (s : Shared) (H : Hp) (E : XK), Room k (A.deeper (envOfC qual (defScope st) s.heap.objs.size f cdv)) → A.guards = some [] →
      PSs (cxOf (L2.CX P w) P w K mg base N qual (defScope st) f cdv A outer s H E) (defBody st) (RdS K G (fun c d _ H => E c d H) body)) : FnG P w K mg base (k + 1) f fd ps (spM K G m (runD n body)) := by
  refine defGV F S (fun vs H Q E q => ?_) fun cdv A outer s H vs Q E hr hgd q => ⟨_, hb cdv A outer s H E hr hgd, ?_⟩
  · obtain ⟨ρ, h, ds, r, rd, hl, _⟩ := q
    rw [← rd.length, hl, hm]
  · obtain ⟨ρ, h, ds, r, rd, hl, w⟩ := q
    refine ⟨ρ, h, ds.map some ++ List.replicate (N.length - ds.length) none, r, start_env N rd, ?_⟩
    rw [hn]
    unfold runD at w
    cases eb : body (ds.map some ++ List.replicate (n - ds.length) none) h with
    | nx e h' => rw [eb] at w; exact fun ρ1 H1 σ1 f1 r1 re1 => w ρ1 H1 .non f1 r1 .non
    | rt v h' => rw [eb] at w; exact fun ρ1 H1 v1 f1 r1 re1 => w ρ1 H1 v1 f1 r1 re1
    | exc C fs e h' => rw [eb] at w; exact fun ρ1 H1 σ1 c d eg f1 r1 re1 hx => w ρ1 H1 c d eg f1 r1 hx
    | bk e h' => rw [eb] at w; exact w.elim
    | ct e h' => rw [eb] at w; exact w.elim
    | bad => rw [eb] at w; exact w.elim
/-- the values of the tuple of defaults -/
theorem KB.pd {fd : FuncData} {ps : List Str} {T : Addr} {od : Option Addr} {nn : Nat} {sl : Array (Option Value)} (n : Nat) (ks : List Str) (mv : List Value) (dvs : List V) (dds : List D) (S : List Src)
    (hd : fd.defaults = .ref T) (lk : K.lookup T = some ⟨.type "tuple", od, .seq mv.toArray nn, sl⟩) (rk : Vals dvs mv) (hD : ∀ ρ H, RDs K G ρ H dds dvs)
    (h : ∀ us ws : List Value, us.length = n → ws.length = ks.length → ∃ k : Option (Array Value) → Sem (List (Str × Value)), bindArgs fd ⟨us, ks.zip ws⟩ = (seqItems? fd.defaults >>= k) ∧ k (some mv.toArray) = pure (ps.zip (arr S us mv ws))) : KB K G fd ps n ks S dds := by
  refine ⟨mv, dvs, ⟨fun s us ws X l1 l2 => ?_, fun r1 r2 => vals_arr r1 rk r2 S⟩, hD⟩
  obtain ⟨k, h1, h2⟩ := h us ws l1 l2
  exact BindsTo.of_defaults hd (X _ _ lk) rfl h1 h2
end
end MM

set_option Elab.async false
set_option linter.all false
set_option maxRecDepth 100000
set_option maxHeartbeats 4000000
set_option autoImplicit false
/-! places under a local name, then places.index(x) at once; o.f op= e -/
namespace MM
open PySem PySem.Spec PyProof.Rows L2

def NdSl (K : PySem.W.Frag) (i : Nat) (σ : L2.St) (H : Hp) : Prop := ∀ v, σ[i]? = some (some v) → ∃ b, v = .ref b ∧ NdT K H b
def RdEi (K : PySem.W.Frag) (G : Nat → Option Addr) (W : WX) (i : Nat) (m : Mx) : TE := fun σ H Q => NdSl K i σ H ∧ RdE K G W m σ H Q
def RdNi (K : PySem.W.Frag) (G : Nat → Option Addr) (W : WX) (i : Nat) (m : Mx) : TE := fun σ H Q => NdSl K i σ H ∧ RdN K G W m σ H Q
section
variable {K : PySem.W.Frag} {ρ ρ' : List Addr} {H H' : Hp} {i : Nat} {σ : L2.St}
theorem NdSl.fut (n : NdSl K i σ H) (f : Fut K ρ H ρ' H') : NdSl K i σ H' := fun v e => let ⟨b, h1, h2⟩ := n v e; ⟨b, h1, h2.fut f⟩
end
section
variable {X : Cx} {G : Nat → Option Addr} {W : WX} {o e a b : Expr} {es : List Expr} {i : Nat} {pos : Pos}
theorem me_li {m : Mx} (p : PE X e (RdE X.K G W m)) : PE X e (RdEi X.K G W i m) := PE.imp p fun _ _ _ q => q.2
theorem me_varNi (i : Nat) {x : Str} (hN : X.N[i]? = some x := by rfl) (hv : Vis X.env.scope x := by first | exact Or.inl rfl | exact Or.inr (Or.inl rfl) | exact Or.inr (Or.inr rfl)) (hd : (x == ("__debug__" : Str)) = false := by decide)
    (hcd : (x == ("__classdict__" : Str)) = false := by decide) : PE X (.Name x pos) (RdNi X.K G W i (eVar i)) := by
  refine PE.imp (pe_var hN hv hd hcd) fun σ H Q q => ?_
  obtain ⟨n, ρ, h, env, r, re, w⟩ := q
  unfold eVar at w
  split at w
  · rename_i d ed
    obtain ⟨v, e1, e2⟩ := re.at_ i d ed
    obtain ⟨b, h1, h2⟩ := n v e1
    exact ⟨v, e1, w ρ H v .refl r ⟨e2, b, h1, h2⟩⟩
  · exact w.elim
theorem me_opi {op : Operator} {f : D → D → MH → Option (D × MH)} {ma mb : Mx} (ho : OpOK X G (binaryOp op) f) (ha : PE X a (RdEi X.K G W i ma)) (hb : PE X b (RdEi X.K G W i mb)) : PE X (.BinOp a op b pos) (RdEi X.K G W i (eOp f ma mb)) := by
  refine PE.imp (pe_op ho ha hb) fun σ H Q q => ?_
  obtain ⟨n, ρ, h, env, r, re, w⟩ := q
  refine ⟨n, ρ, h, env, r, re, Wp.bind w fun x h1 ρ1 H1 vx f1 r1 q1 w1 => ?_⟩
  refine ⟨n.fut f1, ρ1, h1, env, r1, re.fut f1, Wp.bind w1 fun y h2 ρ2 H2 vy f2 r2 q2 w2 => ?_⟩
  obtain ⟨v, h', ea, k⟩ := w2.opt
  exact ⟨ρ2, h2, x, y, v, h', r2, q1.fut f2, q2, ea, k⟩
theorem me_idxi {apos cpos : Pos} {m : Mx} {ms : Ma} (ho : PE X o (RdNi X.K G W i m)) (ha : PA X (e :: es) (RdA X.K G W ms))
    (hbase : attributeBase o "index" X.env (eval o X.env) = eval o X.env := by rfl)
    (hfew : ((backTo cpos (starEach (e :: es) X.env)).all (fun x => !x.1) && (backToKw cpos (keywordEach [] X.env)).all (fun x => x.1.isSome)
      && decide ((e :: es).length + ([] : List Keyword).length + (if ([] : List Keyword).isEmpty then 0 else 1) < 30)) = true := by rfl)
    (hline : (apos.endLine == cpos.line) = true := by rfl) (hs : starEach (e :: es) X.env = (false, eval e X.env) :: starEach es X.env := by rfl) (hplain : (backTo cpos (starEach es X.env)).any (·.1) = false := by rfl) :
    PE X (.Call (.Attribute o "index" apos) (e :: es) [] cpos) (RdEi X.K G W i (eIdxN m ms)) := by
  refine ⟨fun pins s σ H Q I q => ?_⟩
  obtain ⟨n, ρ, h, env, r, re, w⟩ := q
  refine wpAny_Call_method_late hbase hfew hline rfl (thn (ho.run pins s σ H (fun x H1 => ∃ (ρ1 : List Addr) (h1 : MH) (d : D) (b : Addr), x = .ref b ∧ NdT X.K H1 b ∧ Rel X.K G ρ1 h1 H1 ∧ REnv X.K G ρ1 H1 env σ ∧ RD X.K G ρ1 H1 d x ∧ Wp X.K G (RD X.K G) ρ1 H1 ((ms env h1).bind fun ds h2 => ofOpt (indexT d ds h2)) Q (fun c d H' => W c d σ H'))
    I ⟨n, ρ, h, env, r, re, Wp.bind w fun x h1 ρ1 H1 vx f1 r1 q1 w1 => let ⟨b, e1, n1⟩ := q1.2; ⟨ρ1, h1, x, b, e1, n1, r1, re.fut f1, q1.1, w1⟩⟩) fun v s1 ⟨x, H1, I1, rx, ρ1, h1, d, b, ex, nd, r1, re1, rd, w1⟩ => ?_)
  subst ex
  obtain rfl : v = Value.ref b := rx
  obtain ⟨t1, t2⟩ := nd.is I1.kIn I1.hok
  refine ⟨"tuple", "tuple.index", PySem.F.plainAttrs_tuple, PySem.F.slot_tuple_index, PySem.F.type_tuple_index, t1, t2, ?_⟩
  have hA := ha.run cpos pins s1 σ H1 (fun xs H2 => ∃ (ρ2 : List Addr) (h2 : MH) (ds : List D), Rel X.K G ρ2 h2 H2 ∧ RD X.K G ρ2 H2 d (.ref b) ∧ RDs X.K G ρ2 H2 ds xs ∧ Wp X.K G (RD X.K G) ρ2 H2 (ofOpt (indexT d ds h2)) Q (fun c d H' => W c d σ H'))
    I1 ⟨ρ1, h1, env, r1, re1, Wp.bind w1 fun ds h2 ρ2 H2 vs f2 r2 q2 w2 => ⟨ρ2, h2, ds, r2, rd.fut f2, q2, w2⟩⟩
  rw [hs] at hA ⊢
  refine Calls.callWith_builtin (by show (false || (backTo cpos (starEach es X.env)).any (·.1)) = false; rw [hplain] <;> rfl) (Calls.evalArgs_plain ?_)
  refine thn hA fun us s2 ⟨vs, H2, I2, r2, ρ2, h2, ds, R2, rd2, rs2, w2⟩ => ?_
  obtain ⟨dv, h', ee, k⟩ := w2.opt
  exact mt_idxT pins s2 σ H2 (.ref b) vs (.ref b) us Q I2 rfl r2 ⟨ρ2, h2, d, ds, dv, h', R2, rd2, rs2, ee, k⟩
/-- x = ..places; y = (of x.index); rest -/
theorem mss_pl {i j : Nat} {x y : Str} {m2 m3 : Mx} {mr : Ms} {e2 e3 : Expr} {rest : List Stmt} {p1 p2 p3 p4 : Pos} (hN : X.N.Nodup) (hi : X.N[i]? = some x) (hx : Loc X.env.scope x) (he : PE X e2 (RdN X.K G W m2))
    (hj : X.N[j]? = some y) (hy : Loc X.env.scope y) (he3 : PE X e3 (RdEi X.K G W i m3)) (hr : PSs X rest (RdS X.K G W mr))
    (hs : swapsWith e2 (some (.Name x p1)) p2.line X.env = pure false := by rfl) (hs3 : swapsWith e3 (some (.Name y p3)) p4.line X.env = pure false := by rfl)
    (hf : X.fn x = true ∨ X.env.scope.names.lookup x = some .local := by first | exact .inl rfl | exact .inr rfl | assumption) (hf3 : X.fn y = true ∨ X.env.scope.names.lookup y = some .local := by first | exact .inl rfl | exact .inr rfl | assumption) :
    PSs X (.Assign [.Name x p1] e2 p2 :: .Assign [.Name y p3] e3 p4 :: rest) (RdS X.K G W (sSeq (sSet i m2) (sSeq (sSet j m3) mr))) := by
  refine PSs.imp (pss_cons (ps_set hN hi hx he hs hf) (pss_cons (ps_set hN hj hy he3 hs3 hf3) hr)) fun D σ H q => ?_
  obtain ⟨ρ, h, env, r, re, w⟩ := q
  refine ⟨ρ, h, env, r, re, ?_⟩
  unfold sSeq sSet at w
  cases e1 : m2 env h with
  | exc C fs h1 => rw [e1] at w; exact fun ρ1 H1 c d eg f1 r1 hx => w ρ1 H1 σ c d eg f1 r1 (re.fut f1) hx
  | bad => rw [e1] at w; exact w.elim
  | ok v h1 =>
    rw [e1] at w
    intro ρ1 H1 u f1 r1 ⟨q1, b, eb, nb⟩
    subst eb
    have re1 := (re.fut f1).set (i := i) q1
    refine ⟨fun v1 ev => ?_, ρ1, h1, _, r1, re1, ?_⟩
    · rw [List.getElem?_set] at ev
      split at ev
      · split at ev
        · cases ev; exact ⟨b, rfl, nb⟩
        · cases ev
      · rename_i hii; exact absurd rfl hii
    · simp only [Res.toS] at w
      cases e3 : m3 (env.set i (some v)) h1 with
      | exc C fs h2 => rw [e3] at w; exact fun ρ2 H2 c d eg f2 r2 hx => WpS.fut f1 w ρ2 H2 _ c d eg f2 r2 (re1.fut f2) hx
      | bad => rw [e3] at w; exact w.elim
      | ok v2 h2 =>
        rw [e3] at w
        intro ρ2 H2 u2 f2 r2 q2
        exact ⟨ρ2, h2, _, r2, (re1.fut f2).set q2, WpS.fut (f1.trans f2) w⟩
end

/-! ### o.f op= e -/
def clsD (x : D) (h : MH) : Option Nat := match x with
  | .ref i => match h.get i with
    | some (.ins C _) => some C
    | _ => none
  | _ => none
def setFA (Cs : List Nat) (f : Str) (z x : D) (h1 h3 : MH) : Option MH := match clsD x h1, clsD x h3 with
  | some C, some C' => bif Nat.beq C C' then setFD Cs f z x h3 else none
  | _, _ => none
def sFldAugM (Cs : List Nat) (f : Str) (g : D → D → MH → Option (D × MH)) (mo mv : Mx) : Ms := fun env h => (mo env h).toS env fun x h1 => match fldD Cs f x h1 with
  | some v => (mv env h1).toS env fun y h2 => match g v y h2 with
    | some (z, h3) => match setFA Cs f z x h1 h3 with
      | some h4 => .nx env h4
      | none => .bad
    | none => .bad
  | none => .bad
section
variable {X : Cx} {G : Nat → Option Addr} {W : WX} {e o : Expr} {pos p' : Pos} {f : Str} {Cs : List Nat}
theorem ms_fldaug {op : Operator} {g : D → D → MH → Option (D × MH)} {mo mv : Mx} (hC : ClF X.K G Cs f) (hf : decide (f = plN) = false) (ho : OpOK X G (inplaceOp op) g) (hh : PE X o (RdE X.K G W mo)) (hv : PE X e (RdE X.K G W mv)) :
    PS X (.AugAssign (.Attribute o f p') op e pos) (RdS X.K G W (sFldAugM Cs f g mo mv)) := by
  refine PS.imp (ps_fldaug (rd := rOp X.K G g) hh hv (fun pins s σ H x y u v Q I rx ry q => ho pins s σ H x y u v Q I rx ry q)) fun D σ H q => ?_
  obtain ⟨ρ, h, env, r, re, w⟩ := q
  refine ⟨ρ, h, env, r, re, WpS.bind w re fun x h1 ρ1 H1 vx f1 r1 q1 re1 w1 => ?_⟩
  cases e1 : fldD Cs f x h1 with
  | none => rw [e1] at w1; exact w1.elim
  | some v =>
    rw [e1] at w1
    unfold fldD at e1
    split at e1
    case h_2 => cases e1
    rename_i i
    split at e1
    case h_2 => cases e1
    rename_i C fs g1
    cases ec : Cs.contains C with
    | false => rw [ec] at e1; cases e1
    | true =>
      rw [ec] at e1
      obtain ⟨a, c, dx, vs, p1, p2, p3, p4, p5⟩ := r1.insN g1
      cases q1 with
      | ref ha =>
        rw [ha] at p1; cases p1
        obtain ⟨u, l1, l2⟩ := p4.look e1
        obtain ⟨c1, c2⟩ := hC C c (by simpa using ec) p2
        refine ⟨_, c, dx, vs, u, rfl, p3, c1, c2, l1, ρ1, h1, env, r1, re1, WpS.bind w1 re1 fun y h2 ρ2 H2 vy f2 r2 q2 re2 w2 => ?_⟩
        cases eg : g v y h2 with
        | none => rw [eg] at w2; exact w2.elim
        | some p =>
          rw [eg] at w2
          refine ⟨ρ2, h2, v, y, p.1, p.2, r2, l2.fut f2, q2, by rw [eg], fun ρ3 H3 vz f3 r3 q3 => ?_⟩
          cases es : setFA Cs f p.1 (.ref i) h1 p.2 with
          | none => simp only [es] at w2; exact w2.elim
          | some h4 =>
            simp only [es] at w2
            unfold setFA at es
            split at es
            case h_2 => cases es
            rename_i Ca Cb ca cb
            cases eq : Nat.beq Ca Cb with
            | false => rw [eq] at es; cases es
            | true =>
            rw [eq] at es
            obtain rfl := Nat.eq_of_beq_eq_true eq
            have ca' : some C = some Ca := by rw [← ca]; unfold clsD; simp only [g1]
            cases ca'
            simp only [cond_true] at es
            unfold setFD at es
            simp only at es
            split at es
            case h_2 => cases es
            rename_i C3 fs3 g3
            cases ec3 : (Cs.contains C3 && Nat.blt fs3.length 1000) with
            | false => rw [ec3] at es; cases es
            | true =>
              rw [ec3] at es
              cases es
              rw [Bool.and_eq_true] at ec3
              obtain ⟨a3, c3, dx3, vs3, s1, s2, s3, s4, s5⟩ := r3.insN g3
              have ha3 := (f2.trans f3).at ha
              rw [ha3] at s1; cases s1
              have hC3 : some C3 = some C := by rw [← cb]; unfold clsD; simp only [g3]
              cases hC3
              rw [p2] at s2; cases s2
              have hl : vs3.length < 1000 := by rw [← s4.len]; exact Nat.le_of_ble_eq_true ec3.2
              have n : NoTup (H3 a) := by rw [s3]; exact .ins
              have fu : Fut X.K ρ3 H3 ρ3 (upd H3 a (.ins c dx3 (putF f vz vs3))) := Fut.updS ha3 n
              have ru : Rel X.K G ρ3 (p.2.set i (.ins C (putFD f p.1 fs3))) (upd H3 a (.ins c dx3 (putF f vz vs3))) := r3.set g3 rfl rfl ha3 n ⟨c, dx3, _, p2, upd_same, (s4.fut fu).putF (q3.fut fu), (s5.fut fu).put fun z => absurd z (of_decide_eq_false hf)⟩
              exact ⟨dx3, vs3, s3, hl, w2 _ _ _ ((f3).trans fu) ru ((re2.fut f3).fut fu)⟩
end

/-! ### a dict that a call returned, locked for good; d.items() -/
def eFrz (m : Mx) : Mx := fun env h => (m env h).bind fun x h1 => match x with
  | .ref i => match h1.get i with
    | some (.dct ks) => .ok (.ref i) (h1.set i (.rct ks))
    | some (.dt ks) => .ok (.ref i) (h1.set i (.rdt ks))
    | _ => .bad
  | _ => .bad
def iItm (m : Mx) : Mi := fun env h => (m env h).bind fun x h1 => match x with
  | .ref i => match h1.get i with
    | some (.rct kvs) => .ok (.dis i kvs.length) h1
    | _ => .bad
  | _ => .bad
section
variable {X : Cx} {G : Nat → Option Addr} {W : WX} {e tg : Expr}
theorem me_frz {m : Mx} (he : PE X e (RdE X.K G W m)) : PE X e (RdE X.K G W (eFrz m)) := by
  refine ⟨fun pins s σ H Q I q => ?_⟩
  obtain ⟨ρ, h, env, r, re, w⟩ := q
  refine thn (he.run pins s σ H (fun x H1 => ∃ d u, x = .ref d ∧ H1 d = some u ∧ Mut (some u) ∧ ∀ od, Q x (upd H1 d (.frz od u))) I ⟨ρ, h, env, r, re, Wp.bind w fun x h1 ρ1 H1 vx f1 r1 q1 w1 => ?_⟩) fun v s1 ⟨x, H1, I1, rx, d, u, ex, hd, mu, q⟩ => ?_
  · cases q1 with
    | @ref i a ha =>
      simp only at w1
      split at w1
      · rename_i ks g
        obtain ⟨d, u, e1, e2, mu, nt, k1, k2, nu, hl, hu⟩ := lock_at r1 g rfl
        rw [ha] at e1; cases e1
        refine ⟨_, u, rfl, e2, mu, fun od => ?_⟩
        exact w1 ρ1 _ _ (Fut.updS ha (by rw [e2]; exact nt)) (hl od) (.ref ha)
      · rename_i ks g
        obtain ⟨d, u, e1, e2, mu, nt, k1, k2, nu, hl, hu⟩ := lock_at r1 g rfl
        rw [ha] at e1; cases e1
        refine ⟨_, u, rfl, e2, mu, fun od => ?_⟩
        exact w1 ρ1 _ _ (Fut.updS ha (by rw [e2]; exact nt)) (hl od) (.ref ha)
      · exact w1.elim
    | _ => exact w1.elim
  · obtain ⟨od, I2⟩ := I1.lock hd mu
    exact ⟨x, _, I2, rx, q od⟩
theorem rit_di {K : PySem.W.Frag} {ρ0 : List Addr} {H0 : Hp} {i n : Nat} {a : Addr} {o : Obj} {vs : List (Key × V)} (e : ρ0[i]? = some a) (hl : n = vs.length) (hd : H0 a = some (.frz o (.dK vs))) : RIt K G ρ0 H0 (.dis i n) (Iti a o vs) := by
  intro k ρ h H f R
  have hH := f.frz _ _ _ hd
  refine ⟨fun d hk ed => ?_, fun ef => ⟨hH, by show _ ≤ n; omega⟩⟩
  simp only [MI.at] at ed
  split at ed
  · rename_i xs ex
    unfold MI.prsS at ex
    split at ex
    · rename_i kvs g
      cases ex
      obtain ⟨a', e1, o', vs', e2, rf⟩ := R.ob _ _ g
      rw [f.at e] at e1; cases e1
      rw [hH] at e2; cases e2
      rw [List.getElem?_map, Option.map_eq_some_iff] at ed
      obtain ⟨p, ep, rfl⟩ := ed
      obtain ⟨v, h1, h2⟩ := rf.nth ep
      refine ⟨⟨hH, (List.getElem?_eq_some_iff.mp h1).1⟩, fun x H' hy => ?_⟩
      obtain ⟨T, key, v', h3, rfl, nT, rfl⟩ := hy
      rw [h1] at h3; cases h3
      exact new_tup R nT (.cons (keyD_rd _) (.cons h2 .nil))
    · cases ex
  · cases ed
theorem mi_itm {m : Mx} {elts : List Expr} {kk : Nat} {tpos apos cpos : Pos} (he : PE X e (RdE X.K G W m)) (hbase : attributeBase e "items" X.env (eval e X.env) = eval e X.env := by rfl) (hline : (apos.endLine == cpos.line) = true := by rfl) : PI X (.Tuple elts kk tpos) (.Call (.Attribute e "items" apos) [] [] cpos) (RdI X.K G W (iItm m)) := by
  refine PI.imp (pi_items he hbase hline) fun σ H Q q => ?_
  obtain ⟨ρ, h, env, r, re, w⟩ := q
  refine ⟨ρ, h, env, r, re, Wp.bind w fun x h1 ρ1 H1 vx f1 r1 q1 w1 => ?_⟩
  cases q1 with
  | @ref i a ha =>
    simp only at w1
    split at w1
    · rename_i kvs g
      obtain ⟨a', e1, o', vs', e2, e3⟩ := r1.ob _ _ g
      rw [ha] at e1; cases e1
      exact ⟨_, o', vs', rfl, e2, w1.ret r1 (rit_di ha e3.len e2)⟩
    · exact w1.elim
  | _ => exact w1.elim
end

/-! ### of two readings of one expression, the one that goes -/
def eOr2 (m m' : Mx) : Mx := fun env h => match m env h with
  | .bad => m' env h
  | .ok v h1 => .ok v h1
  | .exc C fs h1 => .exc C fs h1
theorem me_or2 {X : Cx} {G : Nat → Option Addr} {W : WX} {e : Expr} {m m' : Mx} (p : PE X e (RdE X.K G W m)) (p' : PE X e (RdE X.K G W m')) : PE X e (RdE X.K G W (eOr2 m m')) := by
  refine PE.imp (PE.or p p') fun σ H Q q => ?_
  obtain ⟨ρ, h, env, r, re, w⟩ := q
  unfold eOr2 at w
  cases e1 : m env h with
  | bad => rw [e1] at w; exact .inr ⟨ρ, h, env, r, re, w⟩
  | ok v h1 => rw [e1] at w; exact .inl ⟨ρ, h, env, r, re, by rw [e1]; exact w⟩
  | exc C fs h1 => rw [e1] at w; exact .inl ⟨ρ, h, env, r, re, by rw [e1]; exact w⟩
end MM

set_option Elab.async false
set_option maxRecDepth 100000
set_option maxHeartbeats 4000000
/-! the end of a closed law -/
namespace MM
open PySem PySem.Spec PyProof.Rows L2
def yes (r : Res D) : Bool := match r with
  | .ok (.bl true) _ => true
  | _ => false
theorem yes_of {r : Res D} (h : yes r = true) : ∃ h', r = .ok (.bl true) h' := by
  unfold yes at h
  split at h
  · exact ⟨_, rfl⟩
  · cases h
end MM


set_option Elab.async false
set_option linter.all false
set_option maxRecDepth 100000
set_option maxHeartbeats 4000000
namespace K35
open PySem PySem.Spec PyProof.Rows L2 MM
def kd_FORMS : List (Str × Str) := [("add", "ic"), ("mix", "ijc"), ("scale", "ic"), ("swap", "ij"), ("set", "ic"), ("copy", "ij")]
def b__has_form : Ms :=
  (sSeq (sIf (tOrM (tNotM (tTruth (eCB isiA (aCons (eVar 0) (aCons (eC (.ty Ty.tuple)) aNil))))) (tBl (eOp eqD (eCB lenF (aCons (eVar 0) aNil)) (eC (.int (0)))))) (sRet (eC (.bl
      false))) sNil)
    (sSeq (sSet 1 (eOp ixD (eVar 0) (eC (.int (0)))))
    (sRet (eAndM (eCB isiA (aCons (eVar 1) (aCons (eC (.ty Ty.str)) aNil))) (eAndM (eOp (kdIn 10
      kd_FORMS) (eVar 1) (eC (.stat 10))) (eOp eqD (eCB lenF (aCons (eVar 0) aNil)) (eOp addD (eC (.int (1))) (eCB lenF (aCons (eOp (kdIx 10 kd_FORMS) (eC (.stat 10)) (eVar 1))
      aNil)))))))))
def m__has_form : Fn := runD 2 b__has_form
def b_is_within : Ms :=
  (sRet (eAndM (eCB isiA (aCons (eVar 0) (aCons (eC (.ty Ty.int)) aNil))) (eAndM (eNotM (eCB isiA (aCons (eVar 0) (aCons (eC (.ty Ty.bool)) aNil)))) (eChain leD leD (eVar 1) (eVar 0)
      (eVar 2)))))
def m_is_within : Fn := runD 3 b_is_within
def b__is_index : Ms :=
  (sRet (eF m_is_within (aCons (eVar 1) (aCons (eC (.int (0))) (aCons (eOp subD (eCB lenF (aCons (eVar 0) aNil)) (eC (.int (1)))) aNil)))))
def m__is_index : Fn := runD 2 b__is_index
def b__is_action : Ms :=
  (sSeq (sIf (tOrM (tNotM (tTruth (eF m__has_form (aCons (eVar 1) aNil)))) (tNotM (tTruth (eF m__is_index (aCons (eVar 0) (aCons (eOp ixD (eVar 1) (eC (.int (1)))) aNil)))))) (sRet
      (eC (.bl false))) sNil)
    (sSeq (sPar 2 3 (aCons (eOp ixD (eVar 1) (eC (.int (0)))) (aCons (eOp ixD (eVar 1) (eC (.int (1)))) aNil)))
    (sSeq (sSet 4 (eOp (kdIx 10
      kd_FORMS) (eC (.stat 10)) (eVar 2)))
    (sSeq (sIf (tAndM (tBl (eOp inD (eC (.str (Str.ofString "j"))) (eVar 4))) (tOrM (tNotM (tTruth (eF m__is_index (aCons (eVar 0) (aCons
      (eOp ixD (eVar 1) (eC (.int (2)))) aNil))))) (tBl (eOp eqD (eOp ixD (eVar 1) (eC (.int (2)))) (eVar 3))))) (sRet (eC (.bl false))) sNil)
    (sSeq (sIf (tAndM (tBl (eOp inD
      (eC (.str (Str.ofString "c"))) (eVar 4))) (tNotM (tTruth (eF m_is_within (aCons (eOp ixD (eVar 1) (eUn negD (eC (.int (1))))) (aCons (eC (.int (0))) (aCons (eOp subD (eOp ixD
      (eVar 0) (eVar 3)) (eC (.int (1)))) aNil))))))) (sRet (eC (.bl false))) sNil)
    (sRet (eOrM (eOp neD (eVar 2) (eC (.str (Str.ofString "swap")))) (eOp eqD (eOp ixD (eVar 0)
      (eVar 3)) (eOp ixD (eVar 0) (eOp ixD (eVar 1) (eC (.int (2)))))))))))))
def m__is_action : Fn := runD 5 b__is_action
def b__changed : Ms :=
  (sSeq (sIf (tBl (eOp eqD (eOp ixD (eVar 0) (eC (.int (0)))) (eC (.str (Str.ofString "swap"))))) (sRet (eSl (eVar 0) (oPart (eC (.int (1)))) oNone)) sNil)
    (sRet (eSl (eVar 0)
      (oPart (eC (.int (1)))) (oPart (eC (.int (2)))))))
def m__changed : Fn := runD 1 b__changed
def b__is_condition : Ms :=
  (sSeq (sIf (tOrM (tNotM (tTruth (eCB isiA (aCons (eVar 1) (aCons (eC (.ty Ty.tuple)) aNil))))) (tOrM (tBl (eOp neD (eCB lenF (aCons (eVar 1) aNil)) (eC (.int (2))))) (tNotM (tTruth
      (eF m__is_index (aCons (eVar 0) (aCons (eOp ixD (eVar 1) (eC (.int (0)))) aNil))))))) (sRet (eC (.bl false))) sNil)
    (sRet (eF m_is_within (aCons (eOp ixD (eVar 1) (eC
      (.int (1)))) (aCons (eC (.int (0))) (aCons (eOp subD (eOp ixD (eVar 0) (eOp ixD (eVar 1) (eC (.int (0))))) (eC (.int (1)))) aNil))))))
def m__is_condition : Fn := runD 2 b__is_condition
def b__are_conditions : Ms :=
  (sSeq (sIf (tNotM (tTruth (eCB isiA (aCons (eVar 1) (aCons (eC (.ty Ty.tuple)) aNil))))) (sRet (eC (.bl false))) sNil)
    (sSeq (sSet 3 (eF m__changed (aCons (eVar 2) aNil)))
   
      (sSeq (sSet 4 (eUn negD (eC (.int (1)))))
    (sSeq (sFor (iSeq (eVar 1)) (.nm 5) (sSeq (sIf (tOrM (tNotM (tTruth (eF m__is_condition (aCons (eVar 0) (aCons (eVar 5)
      aNil))))) (tOrM (tBl (eOp leD (eOp ixD (eVar 5) (eC (.int (0)))) (eVar 4))) (tBl (eOp inD (eOp ixD (eVar 5) (eC (.int (0)))) (eVar 3))))) (sRet (eC (.bl false))) sNil)
   
      (sSet 4 (eOp ixD (eVar 5) (eC (.int (0)))))))
    (sRet (eC (.bl true)))))))
def m__are_conditions : Fn := runD 6 b__are_conditions
def b_is_row : Ms :=
  (sSeq (sIf (tOrM (tNotM (tTruth (eCB isiA (aCons (eVar 1) (aCons (eC (.ty Ty.tuple)) aNil))))) (tBl (eOp neD (eCB lenF (aCons (eVar 1) aNil)) (eC (.int (2)))))) (sRet (eC (.bl
      false))) sNil)
    (sSeq (sAsg (.tp [(.nm 2), (.nm 3)]) (eVar 1))
    (sRet (eAndM (eF m__is_action (aCons (eVar 0) (aCons (eVar 2) aNil))) (eF m__are_conditions (aCons (eVar
      0) (aCons (eVar 3) (aCons (eVar 2) aNil))))))))
def m_is_row : Fn := runD 4 b_is_row
def b__first_no_row : Ms :=
  (sSeq (sIf (tNotM (tTruth (eCB isiA (aCons (eVar 1) (aCons (eC (.ty Ty.tuple)) aNil))))) (sRet (eC (.int (0)))) sNil)
    (sSeq (sFor (iEnA (aCons (eVar 1) aNil)) (.tp [(.nm 2),
      (.nm 3)]) (sIf (tNotM (tTruth (eF m_is_row (aCons (eVar 0) (aCons (eVar 3) aNil))))) (sRet (eVar 2)) sNil))
    (sRet (eC .non))))
def m__first_no_row : Fn := runD 4 b__first_no_row
def b_is_shape : Ms :=
  (sSeq (sIf (tOrM (tNotM (tTruth (eCB isiA (aCons (eVar 0) (aCons (eC (.ty Ty.tuple)) aNil))))) (tNotM (tBl (eChain leD leD (eC (.int (1))) (eCB lenF (aCons (eVar 0) aNil)) (eC
      (.int (6))))))) (sRet (eC (.bl false))) sNil)
    (sSeq (sSet 1 (eC (.int (1))))
    (sSeq (sFor (iSeq (eVar 0)) (.nm 2) (sSeq (sIf (tNotM (tTruth (eF m_is_within (aCons
      (eVar 2) (aCons (eC (.int (2))) (aCons (eC (.int (64))) aNil)))))) (sRet (eC (.bl false))) sNil)
    (sSet 1 (eOp mulD (eVar 1) (eVar 2)))))
    (sRet (eOp leD (eVar 1) (eC
      (.int (64))))))))
def m_is_shape : Fn := runD 3 b_is_shape
def b__are_pauses : Ms :=
  (sSeq (sIf (tOrM (tNotM (tTruth (eCB isiA (aCons (eVar 0) (aCons (eC (.ty Ty.tuple)) aNil))))) (tBl (eOp gtD (eCB lenF (aCons (eVar 0) aNil)) (eC (.int (8)))))) (sRet (eC (.bl
      false))) sNil)
    (sSeq (sSet 2 (eC (.int (0))))
    (sSeq (sFor (iSeq (eVar 0)) (.nm 3) (sSeq (sIf (tNotM (tTruth (eF m_is_within (aCons (eVar 3) (aCons (eOp addD (eVar 2)
      (eC (.int (1)))) (aCons (eOp subD (eVar 1) (eC (.int (1)))) aNil)))))) (sRet (eC (.bl false))) sNil)
    (sSet 2 (eVar 3))))
    (sRet (eC (.bl true))))))
def m__are_pauses : Fn := runD 4 b__are_pauses
def b_Program___init__ : Ms :=
  (sSeq (sIf (tNotM (tTruth (eF m_is_shape (aCons (eVar 1) aNil)))) (sRaise 1 [] aNil) sNil)
    (sSeq (sSet 4 (eF m__first_no_row (aCons (eVar 1) (aCons (eVar 2) aNil))))
    (sSeq
      (sIf (tBl (eOp isNotD (eVar 4) (eC .non))) (sRaise 3 [(Str.ofString "index")] (aCons (eVar 4) aNil)) sNil)
    (sSeq (sIf (tBl (eOp gtD (eCB lenF (aCons (eVar 2) aNil)) (eC
      (.int (80))))) (sRaise 5 [] aNil) sNil)
    (sSeq (sIf (tNotM (tTruth (eF m__are_pauses (aCons (eVar 3) (aCons (eCB lenF (aCons (eVar 2) aNil)) aNil))))) (sRaise 4 [] aNil)
      sNil)
    (sSeq (sFldM [8] (Str.ofString "shape") (eVar 0) (eVar 1))
    (sSeq (sFldM [8] (Str.ofString "rows") (eVar 0) (eVar 2))
    (sSeq (sFldM [8] (Str.ofString
      "pauses") (eVar 0) (eVar 3))
    (sSeq (sFldM [8] (Str.ofString "places") (eVar 0) (eTup (aCons (eC (.int (0))) aNil)))
    (sIf (tBl (eOp gtD (eCB lenF (aCons (eVar 2)
      aNil)) (eC (.int (0))))) (sFldM [8] (Str.ofString "places") (eVar 0) (eOp catN (eOp catN (eTup (aCons (eC (.int (0))) aNil)) (eVar 3)) (eTup (aCons (eCB lenF (aCons (eVar 2)
      aNil)) aNil)))) sNil))))))))))
def m_Program___init__ : Fn := runD 5 b_Program___init__
def b_check_positions : Ms :=
  (sSeq (sSet 2 (eC (.int (1))))
    (sSeq (sFor (iSeq (eVar 0)) (.nm 3) (sSet 2 (eOp mulD (eVar 2) (eCB lenF (aCons (eFld [8] (Str.ofString "places") (eVar 3)) aNil)))))
    (sIf
      (tBl (eOp gtD (eVar 2) (eVar 1))) (sRaise 7 [] aNil) sNil)))
def m_check_positions : Fn := runD 4 b_check_positions
def b_loses : Ms :=
  (sSeq (sSet 2 (eOp ixD (eVar 1) (eC (.int (0)))))
    (sSeq (sIf (tBl (eOp eqD (eOp ixD (eVar 2) (eC (.int (0)))) (eC (.str (Str.ofString "scale"))))) (sRet (eOp gtD (eCB gcdF
      (aCons (eOp ixD (eVar 2) (eC (.int (2)))) (aCons (eOp ixD (eVar 0) (eOp ixD (eVar 2) (eC (.int (1))))) aNil))) (eC (.int (1))))) sNil)
    (sRet (eOp inD (eOp ixD (eVar 2)
      (eC (.int (0)))) (eTup (aCons (eC (.str (Str.ofString "set"))) (aCons (eC (.str (Str.ofString "copy"))) aNil)))))))
def m_loses : Fn := runD 3 b_loses
def b_first_losing : Ms :=
  (sSeq (sFor (iEnA (aCons (eFld [8] (Str.ofString "rows") (eVar 0)) aNil)) (.tp [(.nm 1), (.nm 2)]) (sIf (tTruth (eF m_loses (aCons (eFld [8] (Str.ofString "shape") (eVar 0)) (aCons
      (eVar 2) aNil)))) (sRet (eVar 1)) sNil))
    (sRet (eC .non)))
def m_first_losing : Fn := runD 3 b_first_losing
def b_check_losing : Ms :=
  (sFor (iEnA (aCons (eVar 0) aNil)) (.tp [(.nm 1), (.nm 2)]) (sIf (tBl (eOp isNotD (eF m_first_losing (aCons (eVar 2) aNil)) (eC .non))) (sRaise 6 [(Str.ofString "index")] (aCons
      (eVar 1) aNil)) sNil))
def m_check_losing : Fn := runD 3 b_check_losing
def b_is_state : Ms :=
  (sSeq (sIf (tOrM (tNotM (tTruth (eCB isiA (aCons (eVar 1) (aCons (eC (.ty Ty.tuple)) aNil))))) (tBl (eOp neD (eCB lenF (aCons (eVar 1) aNil)) (eCB lenF (aCons (eVar 0) aNil)))))
      (sRet (eC (.bl false))) sNil)
    (sRet (eCB allF (aCons (eLc (iZpA (aCons (eVar 0) (aCons (eVar 1) aNil))) (.tp [(.nm 2), (.nm 3)]) tYesM (eF m_is_within (aCons (eVar 3)
      (aCons (eC (.int (0))) (aCons (eOp subD (eVar 2) (eC (.int (1)))) aNil)))) [2, 3]) aNil))))
def m_is_state : Fn := runD 4 b_is_state
def b_check_start : Ms :=
  (sIf (tAndM (tBl (eOp gtD (eCB lenF (aCons (eVar 0) aNil)) (eC (.int (0))))) (tNotM (tTruth (eF m_is_state (aCons (eFld [8] (Str.ofString "shape") (eOp ixD (eVar 0) (eC (.int
      (0))))) (aCons (eVar 1) aNil)))))) (sRaise 2 [] aNil) sNil)
def m_check_start : Fn := runD 2 b_check_start
def b_check_choice : Ms :=
  (sSeq (sEx (eCallK m_check_positions [.p 0, .p 1] [.int (400)] 2 0 (aCons (eVar 0) (aCons (eVar 2) aNil)) aNil))
    (sSeq (sEx (eF m_check_losing (aCons (eVar 0) aNil)))
    (sEx
      (eF m_check_start (aCons (eVar 0) (aCons (eVar 1) aNil))))))
def m_check_choice : Fn := runD 3 b_check_choice
def b_Prefixes___init__ : Ms :=
  (sSeq (sFldM [9] (Str.ofString "whole") (eVar 0) (eVar 1))
    (sFldM [9] (Str.ofString "logs") (eVar 0) eDnew))
def m_Prefixes___init__ : Fn := runD 2 b_Prefixes___init__
def b_prefixes_of : Ms :=
  (sRet (eLc (iSeq (eVar 0)) (.nm 1) tYesM (eMake 9 m_Prefixes___init__ [.p 0, .p 1] [] 1 0 (aCons (eVar 1) aNil) aNil) [1]))
def m_prefixes_of : Fn := runD 2 b_prefixes_of
def b__new_digit : Ms :=
  (sSeq (sPar 2 3 (aCons (eOp ixD (eVar 0) (eC (.int (0)))) (aCons (eOp ixD (eVar 0) (eC (.int (1)))) aNil)))
    (sSeq (sIf (tBl (eOp eqD (eVar 2) (eC (.str (Str.ofString "add")))))
      (sRet (eOp addD (eOp ixD (eVar 1) (eVar 3)) (eOp ixD (eVar 0) (eC (.int (2)))))) sNil)
    (sSeq (sIf (tBl (eOp eqD (eVar 2) (eC (.str (Str.ofString "mix"))))) (sRet (eOp
      addD (eOp ixD (eVar 1) (eVar 3)) (eOp mulD (eOp ixD (eVar 0) (eC (.int (3)))) (eOp ixD (eVar 1) (eOp ixD (eVar 0) (eC (.int (2)))))))) sNil)
    (sSeq (sIf (tBl (eOp eqD
      (eVar 2) (eC (.str (Str.ofString "scale"))))) (sRet (eOp mulD (eOp ixD (eVar 1) (eVar 3)) (eOp ixD (eVar 0) (eC (.int (2)))))) sNil)
    (sSeq (sIf (tBl (eOp eqD (eVar 2) (eC
      (.str (Str.ofString "set"))))) (sRet (eOp ixD (eVar 0) (eC (.int (2))))) sNil)
    (sRet (eOp ixD (eVar 1) (eOp ixD (eVar 0) (eC (.int (2)))))))))))
def m__new_digit : Fn := runD 4 b__new_digit
def b_done : Ms :=
  (sSeq (sAsg (.tp [(.nm 3), (.nm 4)]) (eVar 1))
    (sSeq (sIf (tNotM (tTruth (eCB allF (aCons (eLc (iSeq (eVar 4)) (.tp [(.nm 7), (.nm 8)]) tYesM (eOp eqD (eOp ixD (eVar 2) (eVar
      7)) (eVar 8)) [7, 8]) aNil)))) (sRet (eVar 2)) sNil)
    (sSeq (sSet 5 (eOp ixD (eVar 3) (eC (.int (1)))))
    (sSeq (sSet 6 (eCB listF (aCons (eVar 2) aNil)))
    (sSeq
      (sSub (eVar 6) (eVar 5) (eOp modD (eF m__new_digit (aCons (eVar 3) (aCons (eVar 2) aNil))) (eOp ixD (eVar 0) (eVar 5))))
    (sSeq (sIf (tBl (eOp eqD (eOp ixD (eVar 3) (eC
      (.int (0)))) (eC (.str (Str.ofString "swap"))))) (sSub (eVar 6) (eOp ixD (eVar 3) (eC (.int (2)))) (eOp ixD (eVar 2) (eVar 5))) sNil)
    (sRet (eCB tupleF (aCons (eVar 6)
      aNil)))))))))
def m_done : Fn := runD 9 b_done
def b_log : Ms :=
  (sSeq (sIf (tNotM (tTruth (eF m_is_state (aCons (eFld [8] (Str.ofString "shape") (eVar 0)) (aCons (eVar 1) aNil))))) (sRaise 2 [] aNil) sNil)
    (sSeq (sSet 2 (eLst (aCons (eVar
      1) aNil)))
    (sSeq (sFor (iSeq (eFld [8] (Str.ofString "rows") (eVar 0))) (.nm 3) (sEx (eApp (eVar 2) (aCons (eF m_done (aCons (eFld [8] (Str.ofString "shape") (eVar 0))
      (aCons (eVar 3) (aCons (eOp ixD (eVar 2) (eUn negD (eC (.int (1))))) aNil)))) aNil))))
    (sRet (eVar 2)))))
def m_log : Fn := runD 4 b_log
def b_Prefixes_end : Ms :=
  (sSeq (sIf (tBl (eOp notInA (eVar 2) (eFld [9] (Str.ofString "logs") (eVar 0)))) (sSubA (eFld [9] (Str.ofString "logs") (eVar 0)) (eVar 2) (eF m_log (aCons (eFld [9] (Str.ofString
      "whole") (eVar 0)) (aCons (eVar 2) aNil)))) sNil)
    (sRet (eOp ixD (eOp ixA (eFld [9] (Str.ofString "logs") (eVar 0)) (eVar 2)) (eVar 1))))
def m_Prefixes_end : Fn := runD 3 b_Prefixes_end
def b_Program___len__ : Ms :=
  (sRet (eCB lenF (aCons (eFld [8] (Str.ofString "rows") (eVar 0)) aNil)))
def m_Program___len__ : Fn := runD 1 b_Program___len__
def b__whole_ways : Ms :=
  (sSeq (sSet 3 (eOr2 (eDct [((eVar 1), (eLst aNil))]) (eDctT [((eVar 1), (eLst aNil))])))
    (sSeq (sSet 4 (eLst (aCons (eVar 1) aNil)))
    (sSeq (sSet 5 (eC (.int (0))))
   
      (sSeq (sWhile (tBl (eOp ltD (eVar 5) (eCB lenF (aCons (eVar 4) aNil)))) (sSeq (sSet 6 (eOp ixD (eVar 4) (eVar 5)))
    (sSeq (sFor (iSeq (eVar 2)) (.nm 7) (sSeq (sSet 8
      (eMeth 9 (Str.ofString "end") m_Prefixes_end [.p 0, .p 1, .p 2] [] 2 0 (eOp ixD (eVar 0) (eVar 7)) (aCons (eCB (ownLen 8 m_Program___len__) (aCons (eFld [9] (Str.ofString
      "whole") (eOp ixD (eVar 0) (eVar 7))) aNil)) (aCons (eVar 6) aNil)) aNil))
    (sIf (tBl (eOp notInA (eVar 8) (eVar 3))) (sSeq (sSubA (eVar 3) (eVar 8) (eOp addD (eOp ixA
      (eVar 3) (eVar 6)) (eLst (aCons (eVar 7) aNil))))
    (sEx (eApp (eVar 4) (aCons (eVar 8) aNil)))) sNil)))
    (sAug 5 iaddD (eC (.int (1)))))))
    (sRet (eVar 3))))))
def m__whole_ways : Fn := runD 9 b__whole_ways
def b_stretch_counts : Ms :=
  (sRet (eLc (iSeq (eVar 0)) (.nm 1) tYesM (eOp subD (eCB lenF (aCons (eFld [8] (Str.ofString "places") (eVar 1)) aNil)) (eC (.int (1)))) [1]))
def m_stretch_counts : Fn := runD 2 b_stretch_counts
def b_positions_of : Ms :=
  (sSeq (sSet 1 (eLst (aCons (eTup aNil) aNil)))
    (sSeq (sFor (iSeq (eVar 0)) (.nm 2) (sSet 1 (eLc2 (iSeq (eVar 1)) (.nm 3) tYesM (iSeq (eFld [8] (Str.ofString "places") (eVar
      2))) (.nm 4) tYesM (eOp addD (eVar 3) (eTup (aCons (eVar 4) aNil))) [3, 4] [4])))
    (sRet (eVar 1))))
def m_positions_of : Fn := runD 5 b_positions_of
def b__ends : Ms :=
  (sSeq (sSet 3 eDnew)
    (sSeq (sFor (iEnA (aCons (eVar 2) aNil)) (.tp [(.nm 4), (.nm 5)]) (sIf (tBl (eOp gtD (eVar 5) (eC (.int (0))))) (sSeq (sSet 6 (eOp ixA (eVar 1) (eOp addD
      (eOp addD (eSl (eVar 2) oNone (oPart (eVar 4))) (eTup (aCons (eC (.int (0))) aNil))) (eSl (eVar 2) (oPart (eOp addD (eVar 4) (eC (.int (1))))) oNone))))
    (sSubA (eVar 3)
      (eVar 4) (eMeth 9 (Str.ofString "end") m_Prefixes_end [.p 0, .p 1, .p 2] [] 2 0 (eOp ixD (eVar 0) (eVar 4)) (aCons (eVar 5) (aCons (eVar 6) aNil)) aNil))) sNil))
    (sRet
      (eVar 3))))
def m__ends : Fn := runD 7 b__ends
def b_settle : Ms :=
  (sSeq (sSet 3 eDnew)
    (sSeq (sFor (iSeq (eF m_positions_of (aCons (eVar 0) aNil))) (.nm 4) (sSeq (sSet 5 (eF m__ends (aCons (eVar 1) (aCons (eVar 3) (aCons (eVar 4) aNil)))))
  
       (sSeq (sSet 6 (eCB listA (aCons (eVar 5) aNil)))
    (sSeq (sFor (iSeq (eSl (eVar 6) (oPart (eC (.int (1)))) oNone)) (.nm 7) (sIf (tBl (eOp neD (eOp ixA (eVar 5) (eVar 7))
      (eOp ixA (eVar 5) (eOp ixD (eVar 6) (eC (.int (0))))))) (sRet (eTup (aCons (eVar 3) (aCons (eTup (aCons (eVar 4) (aCons (eOp ixD (eVar 6) (eC (.int (0)))) (aCons (eVar 7)
      aNil)))) aNil)))) sNil))
    (sSubA (eVar 3) (eVar 4) (eIfM (tBl (eOp gtD (eCB lenF (aCons (eVar 6) aNil)) (eC (.int (0))))) (eOp ixA (eVar 5) (eOp ixD (eVar 6) (eC (.int
      (0))))) (eVar 2)))))))
    (sRet (eTup (aCons (eVar 3) (aCons (eC .non) aNil))))))
def m_settle : Fn := runD 8 b_settle
def b_order_with_last : Ms :=
  (sRet (eCB tupleF (aCons (eOp addD (eLc (iRng1M (aCons (eVar 0) aNil)) (.nm 2) (tBl (eOp neD (eVar 2) (eVar 1))) (eVar 2) [2]) (eLst (aCons (eVar 1) aNil))) aNil)))
def m_order_with_last : Fn := runD 3 b_order_with_last
def b__entries : Ms :=
  (sRet (eLc2 (iEnA (aCons (eVar 0) aNil)) (.tp [(.nm 1), (.nm 2)]) tYesM (iRng1M (aCons (eVar 2) aNil)) (.nm 3) tYesM (eVar 1) [1, 2, 3] [3]))
def m__entries : Fn := runD 4 b__entries
def b_part_from : Ms :=
  (sSeq (sSet 3 (eOp ixD (eF m_settle (aCons (eVar 0) (aCons (eVar 1) (aCons (eVar 2) aNil)))) (eC (.int (1)))))
    (sSeq (sIf (tBl (eOp isD (eVar 3) (eC .non))) (sRet (eC .non))
      sNil)
    (sSeq (sAsg (.tp [(.nm 4), (.nm 5), (.nm 6)]) (eVar 3))
    (sSeq (sSet 7 (eLc (iSeq (eTup (aCons (eVar 5) (aCons (eVar 6) aNil)))) (.nm 10) tYesM (eF
      m_order_with_last (aCons (eCB lenF (aCons (eVar 0) aNil)) (aCons (eVar 10) aNil))) [10]))
    (sSeq (sSet 8 (eLc (iZpA (aCons (eVar 0) (aCons (eVar 4) aNil))) (.tp [(.nm 13),
      (.nm 14)]) tYesM (eIdxN (eFldN [8] (Str.ofString "places") (eVar 13)) (aCons (eVar 14) aNil)) [13, 14]))
    (sSeq (sSet 9 (eLc (iZpA (aCons (eF m_stretch_counts (aCons (eVar
      0) aNil)) (aCons (eVar 8) aNil))) (.tp [(.nm 15), (.nm 16)]) tYesM (eOp subD (eVar 15) (eVar 16)) [15, 16]))
    (sSeq (sFor (iSeq (eTup (aCons (eVar 5) (aCons (eVar 6)
      aNil)))) (.nm 10) (sAugA (eVar 8) (eVar 10) subD (eC (.int (1)))))
    (sSeq (sPar 11 12 (aCons (eF m__entries (aCons (eVar 8) aNil)) (aCons (eF m__entries (aCons (eVar 9)
      aNil)) aNil)))
    (sRet (eTup (aCons (eVar 4) (aCons (eOp ixD (eVar 7) (eC (.int (0)))) (aCons (eOp ixD (eVar 7) (eC (.int (1)))) (aCons (eOp addD (eOp addD (eVar 11) (eLst
      (aCons (eVar 6) (aCons (eVar 5) aNil)))) (eVar 12)) (aCons (eOp addD (eOp addD (eVar 11) (eLst (aCons (eVar 5) (aCons (eVar 6) aNil)))) (eVar 12)) aNil)))))))))))))))
def m_part_from : Fn := runD 17 b_part_from
def b_rounds_part : Ms :=
  (sSeq (sEx (eCallK m_check_choice [.p 0, .p 1, .p 2] [.int (400)] 3 0 (aCons (eVar 0) (aCons (eVar 1) (aCons (eC (.int (100))) aNil))) aNil))
    (sSeq (sSet 3 (eF m_prefixes_of
      (aCons (eVar 0) aNil)))
    (sSeq (sSet 4 (eF m__whole_ways (aCons (eVar 3) (aCons (eVar 1) (aCons (eVar 2) aNil)))))
    (sSeq (sSet 5 (eF m_stretch_counts (aCons (eVar 0)
      aNil)))
    (sSeq (sLock (lkV 4) (sFor (iAny (eVar 4)) (.nm 6) (sSeq (sSet 7 (eF m_part_from (aCons (eVar 0) (aCons (eVar 3) (aCons (eVar 6) aNil)))))
    (sIf (tBl (eOp
      isNotD (eVar 7) (eC .non))) (sSeq (sSet 8 (eLc2 (iSeq (eOp ixA (eVar 4) (eVar 6))) (.nm 9) tYesM (iRng1M (aCons (eOp ixD (eVar 5) (eVar 9)) aNil)) (.nm 10) tYesM (eVar 9) [9,
      10] [10]))
    (sRet (eTup (aCons (eOp addD (eVar 8) (eOp ixD (eVar 7) (eC (.int (3))))) (aCons (eOp addD (eVar 8) (eOp ixD (eVar 7) (eC (.int (4))))) aNil))))) sNil))))
   
      (sRet (eC .non)))))))
def m_rounds_part : Fn := runD 11 b_rounds_part
def b_round_states : Ms :=
  (sSeq (sEx (eCallK m_check_choice [.p 0, .p 1, .p 2] [.int (400)] 3 0 (aCons (eVar 0) (aCons (eVar 1) (aCons (eC (.int (100))) aNil))) aNil))
    (sRet (eCB sortedF (aCons (eCB
      listA (aCons (eF m__whole_ways (aCons (eF m_prefixes_of (aCons (eVar 0) aNil)) (aCons (eVar 1) (aCons (eVar 2) aNil)))) aNil)) aNil))))
def m_round_states : Fn := runD 3 b_round_states
def b_part : Ms :=
  (sSeq (sEx (eCallK m_check_choice [.p 0, .p 1, .d 0] [.int (400)] 2 0 (aCons (eVar 0) (aCons (eVar 1) aNil)) aNil))
    (sRet (eF m_part_from (aCons (eVar 0) (aCons (eF
      m_prefixes_of (aCons (eVar 0) aNil)) (aCons (eVar 1) aNil))))))
def m_part : Fn := runD 2 b_part
def b__law_wrong_late : Ms :=
  (sSeq (sSet 0 (eMake 8 m_Program___init__ [.p 0, .p 1, .p 2, .d 0] [.tup []] 2 0 (aCons (eTup (aCons (eC (.int (2))) (aCons (eC (.int (3))) aNil))) (aCons (eTup (aCons (eTup (aCons
      (eTup (aCons (eC (.str (Str.ofString "add"))) (aCons (eC (.int (1))) (aCons (eC (.int (1))) aNil)))) (aCons (eTup aNil) aNil))) aNil)) aNil)) aNil))
    (sSeq (sSet 1 (eMake
      8 m_Program___init__ [.p 0, .p 1, .p 2, .d 0] [.tup []] 2 0 (aCons (eTup (aCons (eC (.int (2))) (aCons (eC (.int (3))) aNil))) (aCons (eTup (aCons (eTup (aCons (eTup (aCons
      (eC (.str (Str.ofString "add"))) (aCons (eC (.int (0))) (aCons (eC (.int (1))) aNil)))) (aCons (eTup (aCons (eTup (aCons (eC (.int (1))) (aCons (eC (.int (2))) aNil))) aNil))
      aNil))) aNil)) aNil)) aNil))
    (sSeq (sIf (tOrM (tBl (eOp isNotD (eF m_part (aCons (eLst (aCons (eVar 0) (aCons (eVar 1) aNil))) (aCons (eTup (aCons (eC (.int (0))) (aCons
      (eC (.int (0))) aNil))) aNil))) (eC .non))) (tBl (eOp isNotD (eF m_rounds_part (aCons (eLst (aCons (eVar 0) (aCons (eVar 1) aNil))) (aCons (eTup (aCons (eC (.int (0))) (aCons
      (eC (.int (0))) aNil))) (aCons (eLst aNil) aNil)))) (eC .non)))) (sRet (eC (.bl false))) sNil)
    (sSeq (sIf (tOrM (tBl (eOp isNotD (eF m_rounds_part (aCons (eLst (aCons
      (eVar 0) (aCons (eVar 1) aNil))) (aCons (eTup (aCons (eC (.int (0))) (aCons (eC (.int (0))) aNil))) (aCons (eLst (aCons (eC (.int (1))) aNil)) aNil)))) (eC .non))) (tBl (eOp
      isD (eF m_rounds_part (aCons (eLst (aCons (eVar 0) (aCons (eVar 1) aNil))) (aCons (eTup (aCons (eC (.int (0))) (aCons (eC (.int (0))) aNil))) (aCons (eLst (aCons (eC (.int
      (0))) aNil)) aNil)))) (eC .non)))) (sRet (eC (.bl false))) sNil)
    (sSeq (sIf (tBl (eOp neD (eF m_round_states (aCons (eLst (aCons (eVar 0) (aCons (eVar 1) aNil))) (aCons
      (eTup (aCons (eC (.int (0))) (aCons (eC (.int (0))) aNil))) (aCons (eLst (aCons (eC (.int (0))) (aCons (eC (.int (1))) aNil))) aNil)))) (eLst (aCons (eTup (aCons (eC (.int
      (0))) (aCons (eC (.int (0))) aNil))) (aCons (eTup (aCons (eC (.int (0))) (aCons (eC (.int (1))) aNil))) (aCons (eTup (aCons (eC (.int (0))) (aCons (eC (.int (2))) aNil)))
      (aCons (eTup (aCons (eC (.int (1))) (aCons (eC (.int (0))) aNil))) (aCons (eTup (aCons (eC (.int (1))) (aCons (eC (.int (1))) aNil))) (aCons (eTup (aCons (eC (.int (1)))
      (aCons (eC (.int (2))) aNil))) aNil))))))))) (sRet (eC (.bl false))) sNil)
    (sRet (eAndM (eOp isNotD (eF m_rounds_part (aCons (eLst (aCons (eVar 0) (aCons (eVar 1) aNil)))
      (aCons (eTup (aCons (eC (.int (0))) (aCons (eC (.int (2))) aNil))) (aCons (eLst aNil) aNil)))) (eC .non)) (eOp isNotD (eF m_part (aCons (eLst (aCons (eVar 0) (aCons (eVar 1)
      aNil))) (aCons (eTup (aCons (eC (.int (1))) (aCons (eC (.int (1))) aNil))) aNil))) (eC .non)))))))))
def m__law_wrong_late : Fn := runD 2 b__law_wrong_late
def s_law_0 : Ms :=
  (sRet (eC (.bl false)))

def s_law_1 : Ms :=
  (sRet (eC (.bl false)))

def s_law_2 : Ms :=
  (sIf (tBl (eOp isNotD (eF m_rounds_part (aCons (eLst (aCons (eVar 1) (aCons (eVar 2) (aCons (eVar 1) aNil)))) (aCons (eTup (aCons (eC (.int (0))) (aCons (eC (.int (0))) aNil)))
      (aCons (eVar 3) aNil)))) (eC .non))) s_law_1 sNil)

def l_law_3 : Ms :=
  s_law_2

def s_law_4 : Ms :=
  (sRet (eC (.bl false)))

def s_law_5 : Ms :=
  (sRet (eC (.bl false)))

def s_law_6 : Ms :=
  (sIf (tNotM (tTruth (eF m__law_wrong_late aNil))) s_law_0 sNil)

def s_law_7 : Ms :=
  (sSet 1 (eMake 8 m_Program___init__ [.p 0, .p 1, .p 2, .k 0] [] 2 1 (aCons (eTup (aCons (eC (.int (4))) (aCons (eC (.int (2))) aNil))) (aCons (eTup (aCons (eTup (aCons (eTup (aCons
      (eC (.str (Str.ofString "add"))) (aCons (eC (.int (0))) (aCons (eC (.int (1))) aNil)))) (aCons (eTup aNil) aNil))) (aCons (eTup (aCons (eTup (aCons (eC (.str (Str.ofString
      "add"))) (aCons (eC (.int (0))) (aCons (eC (.int (2))) aNil)))) (aCons (eTup aNil) aNil))) aNil))) aNil)) (aCons (eTup (aCons (eC (.int (1))) aNil)) aNil)))

def s_law_8 : Ms :=
  (sSet 2 (eMake 8 m_Program___init__ [.p 0, .p 1, .p 2, .k 0] [] 2 1 (aCons (eTup (aCons (eC (.int (4))) (aCons (eC (.int (2))) aNil))) (aCons (eTup (aCons (eTup (aCons (eTup (aCons
      (eC (.str (Str.ofString "add"))) (aCons (eC (.int (0))) (aCons (eC (.int (1))) aNil)))) (aCons (eTup aNil) aNil))) (aCons (eTup (aCons (eTup (aCons (eC (.str (Str.ofString
      "add"))) (aCons (eC (.int (1))) (aCons (eC (.int (1))) aNil)))) (aCons (eTup aNil) aNil))) aNil))) aNil)) (aCons (eTup (aCons (eC (.int (1))) aNil)) aNil)))

def s_law_9 : Ms :=
  (sFor (iSeq (eTup (aCons (eLst aNil) (aCons (eLst (aCons (eC (.int (0))) aNil)) (aCons (eLst (aCons (eC (.int (1))) aNil)) (aCons (eLst (aCons (eC (.int (0))) (aCons (eC (.int
      (1))) aNil))) aNil)))))) (.nm 3) l_law_3)

def s_law_10 : Ms :=
  (sIf (tBl (eOp neD (eF m_round_states (aCons (eLst (aCons (eVar 1) aNil)) (aCons (eTup (aCons (eC (.int (1))) (aCons (eC (.int (1))) aNil))) (aCons (eLst (aCons (eC (.int (0)))
      aNil)) aNil)))) (eLst (aCons (eTup (aCons (eC (.int (0))) (aCons (eC (.int (1))) aNil))) (aCons (eTup (aCons (eC (.int (1))) (aCons (eC (.int (1))) aNil))) (aCons (eTup
      (aCons (eC (.int (2))) (aCons (eC (.int (1))) aNil))) (aCons (eTup (aCons (eC (.int (3))) (aCons (eC (.int (1))) aNil))) aNil))))))) s_law_4 sNil)

def s_law_11 : Ms :=
  (sSet 4 (eMake 8 m_Program___init__ [.p 0, .p 1, .p 2, .k 0] [] 2 1 (aCons (eTup (aCons (eC (.int (4))) (aCons (eC (.int (2))) aNil))) (aCons (eTup (aCons (eTup (aCons (eTup (aCons
      (eC (.str (Str.ofString "add"))) (aCons (eC (.int (0))) (aCons (eC (.int (1))) aNil)))) (aCons (eTup aNil) aNil))) (aCons (eTup (aCons (eTup (aCons (eC (.str (Str.ofString
      "add"))) (aCons (eC (.int (0))) (aCons (eC (.int (3))) aNil)))) (aCons (eTup aNil) aNil))) aNil))) aNil)) (aCons (eTup (aCons (eC (.int (1))) aNil)) aNil)))

def s_law_12 : Ms :=
  (sSet 5 (eMake 8 m_Program___init__ [.p 0, .p 1, .p 2, .d 0] [.tup []] 2 0 (aCons (eTup (aCons (eC (.int (4))) (aCons (eC (.int (2))) aNil))) (aCons (eTup (aCons (eTup (aCons (eTup
      (aCons (eC (.str (Str.ofString "mix"))) (aCons (eC (.int (1))) (aCons (eC (.int (0))) (aCons (eC (.int (1))) aNil))))) (aCons (eTup aNil) aNil))) aNil)) aNil)) aNil))

def s_law_13 : Ms :=
  (sIf (tOrM (tBl (eOp neD (eF m_round_states (aCons (eLst (aCons (eVar 4) aNil)) (aCons (eTup (aCons (eC (.int (2))) (aCons (eC (.int (0))) aNil))) (aCons (eLst (aCons (eC (.int
      (0))) aNil)) aNil)))) (eLst (aCons (eTup (aCons (eC (.int (2))) (aCons (eC (.int (0))) aNil))) aNil)))) (tBl (eOp isNotD (eF m_rounds_part (aCons (eLst (aCons (eVar 4) aNil))
      (aCons (eTup (aCons (eC (.int (2))) (aCons (eC (.int (0))) aNil))) (aCons (eLst (aCons (eC (.int (0))) aNil)) aNil)))) (eC .non)))) s_law_5 sNil)

def s_law_14 : Ms :=
  (sSet 6 (eF m_rounds_part (aCons (eLst (aCons (eVar 4) (aCons (eVar 5) aNil))) (aCons (eTup (aCons (eC (.int (2))) (aCons (eC (.int (0))) aNil))) (aCons (eLst (aCons (eC (.int
      (0))) aNil)) aNil)))))

def s_law_15 : Ms :=
  (sSet 7 (eMake 8 m_Program___init__ [.p 0, .p 1, .p 2, .d 0] [.tup []] 2 0 (aCons (eTup (aCons (eC (.int (4))) (aCons (eC (.int (2))) aNil))) (aCons (eFld [8] (Str.ofString "rows")
      (eVar 4)) aNil)) aNil))

def s_law_16 : Ms :=
  (sRet (eAndM (eOp isNotD (eVar 6) (eC .non)) (eOp isD (eF m_rounds_part (aCons (eLst (aCons (eVar 7) (aCons (eVar 5) aNil))) (aCons (eTup (aCons (eC (.int (2))) (aCons (eC (.int
      (0))) aNil))) (aCons (eLst (aCons (eC (.int (0))) (aCons (eC (.int (1))) aNil))) aNil)))) (eC .non))))

def b_law : Ms :=
  (sSeq s_law_6
    (sSeq s_law_7
    (sSeq s_law_8
    (sSeq s_law_9
    (sSeq s_law_10
    (sSeq s_law_11
    (sSeq s_law_12
    (sSeq s_law_13
    (sSeq s_law_14
    (sSeq
      s_law_15
    s_law_16))))))))))
def m_law : Fn := runD 8 b_law
end K35

set_option Elab.async false
set_option maxRecDepth 100000
set_option maxHeartbeats 0
namespace K35
open PySem PySem.Spec PyProof.Rows L2 MM
theorem closed (b : Bool) (ns : List Int) : yes (m_law [.ref 0] (scr b ns)) = true := by kernel_rfl
theorem law_true : ∀ (b : Bool) (ns : List Int), ns.length ≤ 63 → ∃ h', m_law [.ref 0] (scr b ns) = .ok (.bl true) h' := fun b ns _ => yes_of (closed b ns)
end K35


set_option Elab.async false
set_option linter.all false
set_option maxRecDepth 100000
set_option maxHeartbeats 4000000
namespace K35
open PySem PySem.Spec PyProof.Rows L2 MM
def topS (i : Nat) : Stmt := PySem.Challenge.pw_pauseplaces_k35_known_rounds.main.body.getD i (.Pass ⟨0, 0, 0, 0⟩)
abbrev st__has_form : Stmt := topS 16
abbrev nm__has_form : List Str := ["thing", "word"]
theorem sc__has_form : FnScope nm__has_form ["thing"] (defScope st__has_form) := ⟨rfl, rfl, rfl, by decide +kernel, rfl, by decide +kernel, by decide +kernel⟩
abbrev st_is_within : Stmt := topS 11
abbrev nm_is_within : List Str := ["thing", "low", "high"]
theorem sc_is_within : FnScope nm_is_within ["thing", "low", "high"] (defScope st_is_within) := ⟨rfl, rfl, rfl, by decide +kernel, rfl, by decide +kernel, by decide +kernel⟩
abbrev st__is_index : Stmt := topS 17
abbrev nm__is_index : List Str := ["shape", "thing"]
theorem sc__is_index : FnScope nm__is_index ["shape", "thing"] (defScope st__is_index) := ⟨rfl, rfl, rfl, by decide +kernel, rfl, by decide +kernel, by decide +kernel⟩
abbrev st__is_action : Stmt := topS 15
abbrev nm__is_action : List Str := ["shape", "thing", "word", "i", "form"]
theorem sc__is_action : FnScope nm__is_action ["shape", "thing"] (defScope st__is_action) := ⟨rfl, rfl, rfl, by decide +kernel, rfl, by decide +kernel, by decide +kernel⟩
abbrev st__changed : Stmt := topS 20
abbrev nm__changed : List Str := ["action"]
theorem sc__changed : FnScope nm__changed ["action"] (defScope st__changed) := ⟨rfl, rfl, rfl, by decide +kernel, rfl, by decide +kernel, by decide +kernel⟩
abbrev st__is_condition : Stmt := topS 19
abbrev nm__is_condition : List Str := ["shape", "thing"]
theorem sc__is_condition : FnScope nm__is_condition ["shape", "thing"] (defScope st__is_condition) := ⟨rfl, rfl, rfl, by decide +kernel, rfl, by decide +kernel, by decide +kernel⟩
abbrev st__are_conditions : Stmt := topS 18
abbrev nm__are_conditions : List Str := ["shape", "thing", "action", "changed", "last", "pair"]
theorem sc__are_conditions : FnScope nm__are_conditions ["shape", "thing", "action"] (defScope st__are_conditions) := ⟨rfl, rfl, rfl, by decide +kernel, rfl, by decide +kernel, by decide +kernel⟩
abbrev st_is_row : Stmt := topS 14
abbrev nm_is_row : List Str := ["shape", "thing", "action", "conditions"]
theorem sc_is_row : FnScope nm_is_row ["shape", "thing"] (defScope st_is_row) := ⟨rfl, rfl, rfl, by decide +kernel, rfl, by decide +kernel, by decide +kernel⟩
abbrev st__first_no_row : Stmt := topS 34
abbrev nm__first_no_row : List Str := ["shape", "rows", "at", "row"]
theorem sc__first_no_row : FnScope nm__first_no_row ["shape", "rows"] (defScope st__first_no_row) := ⟨rfl, rfl, rfl, by decide +kernel, rfl, by decide +kernel, by decide +kernel⟩
abbrev st_is_shape : Stmt := topS 28
abbrev nm_is_shape : List Str := ["thing", "many", "base"]
theorem sc_is_shape : FnScope nm_is_shape ["thing"] (defScope st_is_shape) := ⟨rfl, rfl, rfl, by decide +kernel, rfl, by decide +kernel, by decide +kernel⟩
abbrev st__are_pauses : Stmt := topS 35
abbrev nm__are_pauses : List Str := ["thing", "end", "last", "place"]
theorem sc__are_pauses : FnScope nm__are_pauses ["thing", "end"] (defScope st__are_pauses) := ⟨rfl, rfl, rfl, by decide +kernel, rfl, by decide +kernel, by decide +kernel⟩
abbrev st_Program___init__ : Stmt := subS (topS 33) 0
abbrev nm_Program___init__ : List Str := ["self", "shape", "rows", "pauses", "wrong"]
theorem sc_Program___init__ : FnScope nm_Program___init__ ["self", "shape", "rows", "pauses"] (defScope st_Program___init__) := ⟨rfl, rfl, rfl, by decide +kernel, rfl, by decide +kernel, by decide +kernel⟩
abbrev st_check_positions : Stmt := topS 40
abbrev nm_check_positions : List Str := ["programs", "most", "many", "program"]
theorem sc_check_positions : FnScope nm_check_positions ["programs", "most"] (defScope st_check_positions) := ⟨rfl, rfl, rfl, by decide +kernel, rfl, by decide +kernel, by decide +kernel⟩
abbrev st_loses : Stmt := topS 23
abbrev nm_loses : List Str := ["shape", "row", "action"]
theorem sc_loses : FnScope nm_loses ["shape", "row"] (defScope st_loses) := ⟨rfl, rfl, rfl, by decide +kernel, rfl, by decide +kernel, by decide +kernel⟩
abbrev st_first_losing : Stmt := topS 36
abbrev nm_first_losing : List Str := ["program", "at", "row"]
theorem sc_first_losing : FnScope nm_first_losing ["program"] (defScope st_first_losing) := ⟨rfl, rfl, rfl, by decide +kernel, rfl, by decide +kernel, by decide +kernel⟩
abbrev st_check_losing : Stmt := topS 46
abbrev nm_check_losing : List Str := ["programs", "at", "program"]
theorem sc_check_losing : FnScope nm_check_losing ["programs"] (defScope st_check_losing) := ⟨rfl, rfl, rfl, by decide +kernel, rfl, by decide +kernel, by decide +kernel⟩
abbrev st_is_state : Stmt := topS 29
abbrev nm_is_state : List Str := ["shape", "thing", "base", "digit"]
theorem sc_is_state : FnScope nm_is_state ["shape", "thing"] (defScope st_is_state) := ⟨rfl, rfl, rfl, by decide +kernel, rfl, by decide +kernel, by decide +kernel⟩
abbrev st_check_start : Stmt := topS 41
abbrev nm_check_start : List Str := ["programs", "start"]
theorem sc_check_start : FnScope nm_check_start ["programs", "start"] (defScope st_check_start) := ⟨rfl, rfl, rfl, by decide +kernel, rfl, by decide +kernel, by decide +kernel⟩
abbrev st_check_choice : Stmt := topS 47
abbrev nm_check_choice : List Str := ["programs", "start", "most"]
theorem sc_check_choice : FnScope nm_check_choice ["programs", "start", "most"] (defScope st_check_choice) := ⟨rfl, rfl, rfl, by decide +kernel, rfl, by decide +kernel, by decide +kernel⟩
abbrev st_Prefixes___init__ : Stmt := subS (topS 44) 0
abbrev nm_Prefixes___init__ : List Str := ["self", "whole"]
theorem sc_Prefixes___init__ : FnScope nm_Prefixes___init__ ["self", "whole"] (defScope st_Prefixes___init__) := ⟨rfl, rfl, rfl, by decide +kernel, rfl, by decide +kernel, by decide +kernel⟩
abbrev st_prefixes_of : Stmt := topS 45
abbrev nm_prefixes_of : List Str := ["programs", "program"]
theorem sc_prefixes_of : FnScope nm_prefixes_of ["programs"] (defScope st_prefixes_of) := ⟨rfl, rfl, rfl, by decide +kernel, rfl, by decide +kernel, by decide +kernel⟩
abbrev st__new_digit : Stmt := topS 22
abbrev nm__new_digit : List Str := ["action", "state", "word", "i"]
theorem sc__new_digit : FnScope nm__new_digit ["action", "state"] (defScope st__new_digit) := ⟨rfl, rfl, rfl, by decide +kernel, rfl, by decide +kernel, by decide +kernel⟩
abbrev st_done : Stmt := topS 21
abbrev nm_done : List Str := ["shape", "row", "state", "action", "conditions", "i", "digits", "j", "v"]
theorem sc_done : FnScope nm_done ["shape", "row", "state"] (defScope st_done) := ⟨rfl, rfl, rfl, by decide +kernel, rfl, by decide +kernel, by decide +kernel⟩
abbrev st_log : Stmt := topS 37
abbrev nm_log : List Str := ["program", "state", "found", "row"]
theorem sc_log : FnScope nm_log ["program", "state"] (defScope st_log) := ⟨rfl, rfl, rfl, by decide +kernel, rfl, by decide +kernel, by decide +kernel⟩
abbrev st_Prefixes_end : Stmt := subS (topS 44) 1
abbrev nm_Prefixes_end : List Str := ["self", "many", "state"]
theorem sc_Prefixes_end : FnScope nm_Prefixes_end ["self", "many", "state"] (defScope st_Prefixes_end) := ⟨rfl, rfl, rfl, by decide +kernel, rfl, by decide +kernel, by decide +kernel⟩
abbrev st_Program___len__ : Stmt := subS (topS 33) 1
abbrev nm_Program___len__ : List Str := ["self"]
theorem sc_Program___len__ : FnScope nm_Program___len__ ["self"] (defScope st_Program___len__) := ⟨rfl, rfl, rfl, by decide +kernel, rfl, by decide +kernel, by decide +kernel⟩
abbrev st__whole_ways : Stmt := topS 58
abbrev nm__whole_ways : List Str := ["prefixes", "start", "rounds", "found", "queue", "at", "ahead", "k", "state"]
theorem sc__whole_ways : FnScope nm__whole_ways ["prefixes", "start", "rounds"] (defScope st__whole_ways) := ⟨rfl, rfl, rfl, by decide +kernel, rfl, by decide +kernel, by decide +kernel⟩
abbrev st_stretch_counts : Stmt := topS 42
abbrev nm_stretch_counts : List Str := ["programs", "program"]
theorem sc_stretch_counts : FnScope nm_stretch_counts ["programs"] (defScope st_stretch_counts) := ⟨rfl, rfl, rfl, by decide +kernel, rfl, by decide +kernel, by decide +kernel⟩
abbrev st_positions_of : Stmt := topS 48
abbrev nm_positions_of : List Str := ["programs", "found", "program", "places", "place"]
theorem sc_positions_of : FnScope nm_positions_of ["programs"] (defScope st_positions_of) := ⟨rfl, rfl, rfl, by decide +kernel, rfl, by decide +kernel, by decide +kernel⟩
abbrev st__ends : Stmt := topS 50
abbrev nm__ends : List Str := ["prefixes", "found", "places", "ends", "k", "place", "ahead"]
theorem sc__ends : FnScope nm__ends ["prefixes", "found", "places"] (defScope st__ends) := ⟨rfl, rfl, rfl, by decide +kernel, rfl, by decide +kernel, by decide +kernel⟩
abbrev st_settle : Stmt := topS 49
abbrev nm_settle : List Str := ["programs", "prefixes", "start", "found", "places", "ends", "last", "j"]
theorem sc_settle : FnScope nm_settle ["programs", "prefixes", "start"] (defScope st_settle) := ⟨rfl, rfl, rfl, by decide +kernel, rfl, by decide +kernel, by decide +kernel⟩
abbrev st_order_with_last : Stmt := topS 51
abbrev nm_order_with_last : List Str := ["many", "last", "k"]
theorem sc_order_with_last : FnScope nm_order_with_last ["many", "last"] (defScope st_order_with_last) := ⟨rfl, rfl, rfl, by decide +kernel, rfl, by decide +kernel, by decide +kernel⟩
abbrev st__entries : Stmt := topS 54
abbrev nm__entries : List Str := ["counts", "k", "many", "_"]
theorem sc__entries : FnScope nm__entries ["counts"] (defScope st__entries) := ⟨rfl, rfl, rfl, by decide +kernel, rfl, by decide +kernel, by decide +kernel⟩
abbrev st_part_from : Stmt := topS 53
abbrev nm_part_from : List Str := ["programs", "prefixes", "start", "clash", "places", "i", "j", "orders", "executed", "left", "k", "first", "last", "program", "place", "many", "behind"]
theorem sc_part_from : FnScope nm_part_from ["programs", "prefixes", "start"] (defScope st_part_from) := ⟨rfl, rfl, rfl, by decide +kernel, rfl, by decide +kernel, by decide +kernel⟩
abbrev st_rounds_part : Stmt := topS 59
abbrev nm_rounds_part : List Str := ["programs", "start", "rounds", "prefixes", "ways", "counts", "state", "found", "way", "k", "_"]
theorem sc_rounds_part : FnScope nm_rounds_part ["programs", "start", "rounds"] (defScope st_rounds_part) := ⟨rfl, rfl, rfl, by decide +kernel, rfl, by decide +kernel, by decide +kernel⟩
abbrev st_round_states : Stmt := topS 57
abbrev nm_round_states : List Str := ["programs", "start", "rounds"]
theorem sc_round_states : FnScope nm_round_states ["programs", "start", "rounds"] (defScope st_round_states) := ⟨rfl, rfl, rfl, by decide +kernel, rfl, by decide +kernel, by decide +kernel⟩
abbrev st_part : Stmt := topS 52
abbrev nm_part : List Str := ["programs", "start"]
theorem sc_part : FnScope nm_part ["programs", "start"] (defScope st_part) := ⟨rfl, rfl, rfl, by decide +kernel, rfl, by decide +kernel, by decide +kernel⟩
abbrev st__law_wrong_late : Stmt := topS 61
abbrev nm__law_wrong_late : List Str := ["one", "other"]
theorem sc__law_wrong_late : FnScope nm__law_wrong_late [] (defScope st__law_wrong_late) := ⟨rfl, rfl, rfl, by decide +kernel, rfl, by decide +kernel, by decide +kernel⟩
abbrev st_law : Stmt := topS 62
abbrev nm_law : List Str := ["script", "one", "other", "rounds", "back", "reads", "told", "bare"]
theorem sc_law : FnScope nm_law ["script"] (defScope st_law) := ⟨rfl, rfl, rfl, by decide +kernel, rfl, by decide +kernel, by decide +kernel⟩
abbrev st_BadShape_init : Stmt := subS (topS 3) 0
abbrev nm_BadShape_init : List Str := ["self"]
theorem sc_BadShape_init : FnScope nm_BadShape_init ["self"] (defScope st_BadShape_init) := ⟨rfl, rfl, rfl, by decide +kernel, rfl, by decide +kernel, by decide +kernel⟩
abbrev st_BadRow_init : Stmt := subS (topS 5) 0
abbrev nm_BadRow_init : List Str := ["self", "index"]
theorem sc_BadRow_init : FnScope nm_BadRow_init ["self", "index"] (defScope st_BadRow_init) := ⟨rfl, rfl, rfl, by decide +kernel, rfl, by decide +kernel, by decide +kernel⟩
abbrev st_Long_init : Stmt := subS (topS 7) 0
abbrev nm_Long_init : List Str := ["self"]
theorem sc_Long_init : FnScope nm_Long_init ["self"] (defScope st_Long_init) := ⟨rfl, rfl, rfl, by decide +kernel, rfl, by decide +kernel, by decide +kernel⟩
abbrev st_BadPauses_init : Stmt := subS (topS 6) 0
abbrev nm_BadPauses_init : List Str := ["self"]
theorem sc_BadPauses_init : FnScope nm_BadPauses_init ["self"] (defScope st_BadPauses_init) := ⟨rfl, rfl, rfl, by decide +kernel, rfl, by decide +kernel, by decide +kernel⟩
abbrev st_TooMany_init : Stmt := subS (topS 9) 0
abbrev nm_TooMany_init : List Str := ["self"]
theorem sc_TooMany_init : FnScope nm_TooMany_init ["self"] (defScope st_TooMany_init) := ⟨rfl, rfl, rfl, by decide +kernel, rfl, by decide +kernel, by decide +kernel⟩
abbrev st_Losing_init : Stmt := subS (topS 8) 0
abbrev nm_Losing_init : List Str := ["self", "index"]
theorem sc_Losing_init : FnScope nm_Losing_init ["self", "index"] (defScope st_Losing_init) := ⟨rfl, rfl, rfl, by decide +kernel, rfl, by decide +kernel, by decide +kernel⟩
abbrev st_BadState_init : Stmt := subS (topS 4) 0
abbrev nm_BadState_init : List Str := ["self"]
theorem sc_BadState_init : FnScope nm_BadState_init ["self"] (defScope st_BadState_init) := ⟨rfl, rfl, rfl, by decide +kernel, rfl, by decide +kernel, by decide +kernel⟩
structure TX (K : PySem.W.Frag) (mg : Str → Option Value) (w : World) (G : Nat → Option Addr) where
  c_BadShape : Addr
  gG_BadShape : G 1 = some c_BadShape
  g_BadShape : mg "BadShape" = some (.ref c_BadShape)
  c_BadState : Addr
  gG_BadState : G 2 = some c_BadState
  g_BadState : mg "BadState" = some (.ref c_BadState)
  c_BadRow : Addr
  gG_BadRow : G 3 = some c_BadRow
  g_BadRow : mg "BadRow" = some (.ref c_BadRow)
  c_BadPauses : Addr
  gG_BadPauses : G 4 = some c_BadPauses
  g_BadPauses : mg "BadPauses" = some (.ref c_BadPauses)
  c_Long : Addr
  gG_Long : G 5 = some c_Long
  g_Long : mg "Long" = some (.ref c_Long)
  c_Losing : Addr
  gG_Losing : G 6 = some c_Losing
  g_Losing : mg "Losing" = some (.ref c_Losing)
  c_TooMany : Addr
  gG_TooMany : G 7 = some c_TooMany
  g_TooMany : mg "TooMany" = some (.ref c_TooMany)
  c_Program : Addr
  gG_Program : G 8 = some c_Program
  g_Program : mg "Program" = some (.ref c_Program)
  cl_Program : Cls K c_Program
  c_Prefixes : Addr
  gG_Prefixes : G 9 = some c_Prefixes
  g_Prefixes : mg "Prefixes" = some (.ref c_Prefixes)
  cl_Prefixes : Cls K c_Prefixes
  c_FORMS : Addr
  gG_FORMS : G 10 = some c_FORMS
  g_FORMS : mg "FORMS" = some (.ref c_FORMS)
  kt_FORMS : KT K w c_FORMS kd_FORMS
  a__has_form : Addr
  d__has_form : FuncData
  F__has_form : Fun K "_has_form" "_has_form" st__has_form a__has_form d__has_form
  g__has_form : mg "_has_form" = some (.ref a__has_form)
  b__has_form : Binds K d__has_form ["thing"] []
  a_is_within : Addr
  d_is_within : FuncData
  F_is_within : Fun K "is_within" "is_within" st_is_within a_is_within d_is_within
  g_is_within : mg "is_within" = some (.ref a_is_within)
  b_is_within : Binds K d_is_within ["thing", "low", "high"] []
  a__is_index : Addr
  d__is_index : FuncData
  F__is_index : Fun K "_is_index" "_is_index" st__is_index a__is_index d__is_index
  g__is_index : mg "_is_index" = some (.ref a__is_index)
  b__is_index : Binds K d__is_index ["shape", "thing"] []
  a__is_action : Addr
  d__is_action : FuncData
  F__is_action : Fun K "_is_action" "_is_action" st__is_action a__is_action d__is_action
  g__is_action : mg "_is_action" = some (.ref a__is_action)
  b__is_action : Binds K d__is_action ["shape", "thing"] []
  a__changed : Addr
  d__changed : FuncData
  F__changed : Fun K "_changed" "_changed" st__changed a__changed d__changed
  g__changed : mg "_changed" = some (.ref a__changed)
  b__changed : Binds K d__changed ["action"] []
  a__is_condition : Addr
  d__is_condition : FuncData
  F__is_condition : Fun K "_is_condition" "_is_condition" st__is_condition a__is_condition d__is_condition
  g__is_condition : mg "_is_condition" = some (.ref a__is_condition)
  b__is_condition : Binds K d__is_condition ["shape", "thing"] []
  a__are_conditions : Addr
  d__are_conditions : FuncData
  F__are_conditions : Fun K "_are_conditions" "_are_conditions" st__are_conditions a__are_conditions d__are_conditions
  g__are_conditions : mg "_are_conditions" = some (.ref a__are_conditions)
  b__are_conditions : Binds K d__are_conditions ["shape", "thing", "action"] []
  a_is_row : Addr
  d_is_row : FuncData
  F_is_row : Fun K "is_row" "is_row" st_is_row a_is_row d_is_row
  g_is_row : mg "is_row" = some (.ref a_is_row)
  b_is_row : Binds K d_is_row ["shape", "thing"] []
  a__first_no_row : Addr
  d__first_no_row : FuncData
  F__first_no_row : Fun K "_first_no_row" "_first_no_row" st__first_no_row a__first_no_row d__first_no_row
  g__first_no_row : mg "_first_no_row" = some (.ref a__first_no_row)
  b__first_no_row : Binds K d__first_no_row ["shape", "rows"] []
  a_is_shape : Addr
  d_is_shape : FuncData
  F_is_shape : Fun K "is_shape" "is_shape" st_is_shape a_is_shape d_is_shape
  g_is_shape : mg "is_shape" = some (.ref a_is_shape)
  b_is_shape : Binds K d_is_shape ["thing"] []
  a__are_pauses : Addr
  d__are_pauses : FuncData
  F__are_pauses : Fun K "_are_pauses" "_are_pauses" st__are_pauses a__are_pauses d__are_pauses
  g__are_pauses : mg "_are_pauses" = some (.ref a__are_pauses)
  b__are_pauses : Binds K d__are_pauses ["thing", "end"] []
  a_Program___init__ : Addr
  d_Program___init__ : FuncData
  F_Program___init__ : Fun K "__init__" "Program.__init__" st_Program___init__ a_Program___init__ d_Program___init__
  m_Program___init__ : Meth K c_Program "__init__" a_Program___init__
  a_check_positions : Addr
  d_check_positions : FuncData
  F_check_positions : FunV K "check_positions" "check_positions" st_check_positions a_check_positions d_check_positions
  g_check_positions : mg "check_positions" = some (.ref a_check_positions)
  a_loses : Addr
  d_loses : FuncData
  F_loses : Fun K "loses" "loses" st_loses a_loses d_loses
  g_loses : mg "loses" = some (.ref a_loses)
  b_loses : Binds K d_loses ["shape", "row"] []
  a_first_losing : Addr
  d_first_losing : FuncData
  F_first_losing : Fun K "first_losing" "first_losing" st_first_losing a_first_losing d_first_losing
  g_first_losing : mg "first_losing" = some (.ref a_first_losing)
  b_first_losing : Binds K d_first_losing ["program"] []
  a_check_losing : Addr
  d_check_losing : FuncData
  F_check_losing : Fun K "check_losing" "check_losing" st_check_losing a_check_losing d_check_losing
  g_check_losing : mg "check_losing" = some (.ref a_check_losing)
  b_check_losing : Binds K d_check_losing ["programs"] []
  a_is_state : Addr
  d_is_state : FuncData
  F_is_state : Fun K "is_state" "is_state" st_is_state a_is_state d_is_state
  g_is_state : mg "is_state" = some (.ref a_is_state)
  b_is_state : Binds K d_is_state ["shape", "thing"] []
  a_check_start : Addr
  d_check_start : FuncData
  F_check_start : Fun K "check_start" "check_start" st_check_start a_check_start d_check_start
  g_check_start : mg "check_start" = some (.ref a_check_start)
  b_check_start : Binds K d_check_start ["programs", "start"] []
  a_check_choice : Addr
  d_check_choice : FuncData
  F_check_choice : FunV K "check_choice" "check_choice" st_check_choice a_check_choice d_check_choice
  g_check_choice : mg "check_choice" = some (.ref a_check_choice)
  a_Prefixes___init__ : Addr
  d_Prefixes___init__ : FuncData
  F_Prefixes___init__ : Fun K "__init__" "Prefixes.__init__" st_Prefixes___init__ a_Prefixes___init__ d_Prefixes___init__
  m_Prefixes___init__ : Meth K c_Prefixes "__init__" a_Prefixes___init__
  b_Prefixes___init__ : Binds K d_Prefixes___init__ ["self", "whole"] []
  a_prefixes_of : Addr
  d_prefixes_of : FuncData
  F_prefixes_of : Fun K "prefixes_of" "prefixes_of" st_prefixes_of a_prefixes_of d_prefixes_of
  g_prefixes_of : mg "prefixes_of" = some (.ref a_prefixes_of)
  b_prefixes_of : Binds K d_prefixes_of ["programs"] []
  a__new_digit : Addr
  d__new_digit : FuncData
  F__new_digit : Fun K "_new_digit" "_new_digit" st__new_digit a__new_digit d__new_digit
  g__new_digit : mg "_new_digit" = some (.ref a__new_digit)
  b__new_digit : Binds K d__new_digit ["action", "state"] []
  a_done : Addr
  d_done : FuncData
  F_done : Fun K "done" "done" st_done a_done d_done
  g_done : mg "done" = some (.ref a_done)
  b_done : Binds K d_done ["shape", "row", "state"] []
  a_log : Addr
  d_log : FuncData
  F_log : Fun K "log" "log" st_log a_log d_log
  g_log : mg "log" = some (.ref a_log)
  b_log : Binds K d_log ["program", "state"] []
  a_Prefixes_end : Addr
  d_Prefixes_end : FuncData
  F_Prefixes_end : Fun K "end" "Prefixes.end" st_Prefixes_end a_Prefixes_end d_Prefixes_end
  m_Prefixes_end : Meth K c_Prefixes "end" a_Prefixes_end
  b_Prefixes_end : Binds K d_Prefixes_end ["self", "many", "state"] []
  a_Program___len__ : Addr
  d_Program___len__ : FuncData
  F_Program___len__ : Fun K "__len__" "Program.__len__" st_Program___len__ a_Program___len__ d_Program___len__
  m_Program___len__ : Meth K c_Program "__len__" a_Program___len__
  b_Program___len__ : Binds K d_Program___len__ ["self"] []
  a__whole_ways : Addr
  d__whole_ways : FuncData
  F__whole_ways : Fun K "_whole_ways" "_whole_ways" st__whole_ways a__whole_ways d__whole_ways
  g__whole_ways : mg "_whole_ways" = some (.ref a__whole_ways)
  b__whole_ways : Binds K d__whole_ways ["prefixes", "start", "rounds"] []
  a_stretch_counts : Addr
  d_stretch_counts : FuncData
  F_stretch_counts : Fun K "stretch_counts" "stretch_counts" st_stretch_counts a_stretch_counts d_stretch_counts
  g_stretch_counts : mg "stretch_counts" = some (.ref a_stretch_counts)
  b_stretch_counts : Binds K d_stretch_counts ["programs"] []
  a_positions_of : Addr
  d_positions_of : FuncData
  F_positions_of : Fun K "positions_of" "positions_of" st_positions_of a_positions_of d_positions_of
  g_positions_of : mg "positions_of" = some (.ref a_positions_of)
  b_positions_of : Binds K d_positions_of ["programs"] []
  a__ends : Addr
  d__ends : FuncData
  F__ends : Fun K "_ends" "_ends" st__ends a__ends d__ends
  g__ends : mg "_ends" = some (.ref a__ends)
  b__ends : Binds K d__ends ["prefixes", "found", "places"] []
  a_settle : Addr
  d_settle : FuncData
  F_settle : Fun K "settle" "settle" st_settle a_settle d_settle
  g_settle : mg "settle" = some (.ref a_settle)
  b_settle : Binds K d_settle ["programs", "prefixes", "start"] []
  a_order_with_last : Addr
  d_order_with_last : FuncData
  F_order_with_last : Fun K "order_with_last" "order_with_last" st_order_with_last a_order_with_last d_order_with_last
  g_order_with_last : mg "order_with_last" = some (.ref a_order_with_last)
  b_order_with_last : Binds K d_order_with_last ["many", "last"] []
  a__entries : Addr
  d__entries : FuncData
  F__entries : Fun K "_entries" "_entries" st__entries a__entries d__entries
  g__entries : mg "_entries" = some (.ref a__entries)
  b__entries : Binds K d__entries ["counts"] []
  a_part_from : Addr
  d_part_from : FuncData
  F_part_from : Fun K "part_from" "part_from" st_part_from a_part_from d_part_from
  g_part_from : mg "part_from" = some (.ref a_part_from)
  b_part_from : Binds K d_part_from ["programs", "prefixes", "start"] []
  a_rounds_part : Addr
  d_rounds_part : FuncData
  F_rounds_part : Fun K "rounds_part" "rounds_part" st_rounds_part a_rounds_part d_rounds_part
  g_rounds_part : mg "rounds_part" = some (.ref a_rounds_part)
  b_rounds_part : Binds K d_rounds_part ["programs", "start", "rounds"] []
  a_round_states : Addr
  d_round_states : FuncData
  F_round_states : Fun K "round_states" "round_states" st_round_states a_round_states d_round_states
  g_round_states : mg "round_states" = some (.ref a_round_states)
  b_round_states : Binds K d_round_states ["programs", "start", "rounds"] []
  a_part : Addr
  d_part : FuncData
  F_part : Fun K "part" "part" st_part a_part d_part
  g_part : mg "part" = some (.ref a_part)
  b_part : Binds K d_part ["programs", "start"] []
  a__law_wrong_late : Addr
  d__law_wrong_late : FuncData
  F__law_wrong_late : Fun K "_law_wrong_late" "_law_wrong_late" st__law_wrong_late a__law_wrong_late d__law_wrong_late
  g__law_wrong_late : mg "_law_wrong_late" = some (.ref a__law_wrong_late)
  b__law_wrong_late : Binds K d__law_wrong_late [] []
  a_law : Addr
  d_law : FuncData
  F_law : Fun K "law" "law" st_law a_law d_law
  g_law : mg "law" = some (.ref a_law)
  b_law : Binds K d_law ["script"] []
  mk_Prefixes : Mk K c_Prefixes a_Prefixes___init__
  mk_Program : Mk K c_Program a_Program___init__
  na_Program_shape : NoAttr K c_Program "shape"
  na_Program_rows : NoAttr K c_Program "rows"
  na_Program_pauses : NoAttr K c_Program "pauses"
  na_Program_places : NoAttr K c_Program "places"
  na_Prefixes_whole : NoAttr K c_Prefixes "whole"
  na_Prefixes_logs : NoAttr K c_Prefixes "logs"
  ox_BadShape : OexC K c_BadShape
  i_BadShape : Addr
  e_BadShape : FuncData
  iC_BadShape : PySem.W.findIn K (.ref c_BadShape) "__init__" = some (some (.ref i_BadShape))
  tI_BadShape : PySem.W.typeIn K (.ref i_BadShape) = some (.type "function")
  Fi_BadShape : Fun K "__init__" "BadShape.__init__" st_BadShape_init i_BadShape e_BadShape
  be_BadShape : Binds K e_BadShape ["self"] []
  ox_BadRow : OexC K c_BadRow
  i_BadRow : Addr
  e_BadRow : FuncData
  iC_BadRow : PySem.W.findIn K (.ref c_BadRow) "__init__" = some (some (.ref i_BadRow))
  tI_BadRow : PySem.W.typeIn K (.ref i_BadRow) = some (.type "function")
  Fi_BadRow : Fun K "__init__" "BadRow.__init__" st_BadRow_init i_BadRow e_BadRow
  be_BadRow : Binds K e_BadRow ["self", "index"] []
  ox_Long : OexC K c_Long
  i_Long : Addr
  e_Long : FuncData
  iC_Long : PySem.W.findIn K (.ref c_Long) "__init__" = some (some (.ref i_Long))
  tI_Long : PySem.W.typeIn K (.ref i_Long) = some (.type "function")
  Fi_Long : Fun K "__init__" "Long.__init__" st_Long_init i_Long e_Long
  be_Long : Binds K e_Long ["self"] []
  ox_BadPauses : OexC K c_BadPauses
  i_BadPauses : Addr
  e_BadPauses : FuncData
  iC_BadPauses : PySem.W.findIn K (.ref c_BadPauses) "__init__" = some (some (.ref i_BadPauses))
  tI_BadPauses : PySem.W.typeIn K (.ref i_BadPauses) = some (.type "function")
  Fi_BadPauses : Fun K "__init__" "BadPauses.__init__" st_BadPauses_init i_BadPauses e_BadPauses
  be_BadPauses : Binds K e_BadPauses ["self"] []
  ox_TooMany : OexC K c_TooMany
  i_TooMany : Addr
  e_TooMany : FuncData
  iC_TooMany : PySem.W.findIn K (.ref c_TooMany) "__init__" = some (some (.ref i_TooMany))
  tI_TooMany : PySem.W.typeIn K (.ref i_TooMany) = some (.type "function")
  Fi_TooMany : Fun K "__init__" "TooMany.__init__" st_TooMany_init i_TooMany e_TooMany
  be_TooMany : Binds K e_TooMany ["self"] []
  ox_Losing : OexC K c_Losing
  i_Losing : Addr
  e_Losing : FuncData
  iC_Losing : PySem.W.findIn K (.ref c_Losing) "__init__" = some (some (.ref i_Losing))
  tI_Losing : PySem.W.typeIn K (.ref i_Losing) = some (.type "function")
  Fi_Losing : Fun K "__init__" "Losing.__init__" st_Losing_init i_Losing e_Losing
  be_Losing : Binds K e_Losing ["self", "index"] []
  ox_BadState : OexC K c_BadState
  i_BadState : Addr
  e_BadState : FuncData
  iC_BadState : PySem.W.findIn K (.ref c_BadState) "__init__" = some (some (.ref i_BadState))
  tI_BadState : PySem.W.typeIn K (.ref i_BadState) = some (.type "function")
  Fi_BadState : Fun K "__init__" "BadState.__init__" st_BadState_init i_BadState e_BadState
  be_BadState : Binds K e_BadState ["self"] []
  nf_BadRow_index : PySem.W.findIn K (.ref c_BadRow) "index" = some none
  nf_Losing_index : PySem.W.findIn K (.ref c_Losing) "index" = some none
  kb_0 : KB K G d_check_positions ["programs", "most"] 2 [] [.p 0, .p 1] [.int (400)]
  kb_1 : KB K G d_Prefixes___init__ ["self", "whole"] 2 [] [.p 0, .p 1] []
  kb_2 : KB K G d_Prefixes_end ["self", "many", "state"] 3 [] [.p 0, .p 1, .p 2] []
  kb_3 : KB K G d_check_choice ["programs", "start", "most"] 3 [] [.p 0, .p 1, .p 2] [.int (400)]
  kb_4 : KB K G d_check_choice ["programs", "start", "most"] 2 [] [.p 0, .p 1, .d 0] [.int (400)]
  kb_5 : KB K G d_Program___init__ ["self", "shape", "rows", "pauses"] 3 [] [.p 0, .p 1, .p 2, .d 0] [.tup []]
  kb_6 : KB K G d_Program___init__ ["self", "shape", "rows", "pauses"] 3 ["pauses"] [.p 0, .p 1, .p 2, .k 0] []
  z_tuple : mg "tuple" = none
  z_isinstance : mg "isinstance" = none
  z_len : mg "len" = none
  z_str : mg "str" = none
  z_int : mg "int" = none
  z_bool : mg "bool" = none
  z_enumerate : mg "enumerate" = none
  z_zip : mg "zip" = none
  z_all : mg "all" = none
  z_list : mg "list" = none
  z_range : mg "range" = none
  z_sorted : mg "sorted" = none
  t__MOST_BASES : Tok
  g__MOST_BASES : mg "_MOST_BASES" = some (.int (6) t__MOST_BASES)
  t__GREATEST_BASE : Tok
  g__GREATEST_BASE : mg "_GREATEST_BASE" = some (.int (64) t__GREATEST_BASE)
  t__MOST_STATES : Tok
  g__MOST_STATES : mg "_MOST_STATES" = some (.int (64) t__MOST_STATES)
  t_MOST_PAUSES : Tok
  g_MOST_PAUSES : mg "MOST_PAUSES" = some (.int (8) t_MOST_PAUSES)
  t_MOST_ROWS : Tok
  g_MOST_ROWS : mg "MOST_ROWS" = some (.int (80) t_MOST_ROWS)
  t__MOST_POSITIONS : Tok
  g__MOST_POSITIONS : mg "_MOST_POSITIONS" = some (.int (100) t__MOST_POSITIONS)
  g_gcd : mg "gcd" = some (.builtin "math.gcd")
section
variable {P : Program} {w : World} {K : PySem.W.Frag} {mg : Str → Option Value} {base : Heap} {G : Nat → Option Addr}
theorem er_BadShape (T : TX K mg w G) : ErC P w K mg base T.c_BadShape T.i_BadShape T.e_BadShape "BadShape" 1 ["self"] spI0 :=
  ⟨T.ox_BadShape, T.iC_BadShape, T.tI_BadShape, T.Fi_BadShape.ok sc_BadShape_init (fun vs H Q E h => by obtain ⟨a, rfl, _⟩ := h; rfl) (fun cdv A outer s H vs Q E hr h => ⟨_, (pss_one ps_pass), init0_rd h⟩), T.be_BadShape, T.g_BadShape⟩
theorem er_BadRow (T : TX K mg w G) : ErC P w K mg base T.c_BadRow T.i_BadRow T.e_BadRow "BadRow" 1 ["self", "index"] (spI1 T.c_BadRow "index") :=
  ⟨T.ox_BadRow, T.iC_BadRow, T.tI_BadRow, T.Fi_BadRow.ok sc_BadRow_init (fun vs H Q E h => by obtain ⟨a, y, rfl, _⟩ := h; rfl) (fun cdv A outer s H vs Q E hr h => ⟨_, (pss_one (ps_ost (pv 0) (pv 1))), init1_rd T.ox_BadRow T.nf_BadRow_index h⟩), T.be_BadRow, T.g_BadRow⟩
theorem er_Long (T : TX K mg w G) : ErC P w K mg base T.c_Long T.i_Long T.e_Long "Long" 1 ["self"] spI0 :=
  ⟨T.ox_Long, T.iC_Long, T.tI_Long, T.Fi_Long.ok sc_Long_init (fun vs H Q E h => by obtain ⟨a, rfl, _⟩ := h; rfl) (fun cdv A outer s H vs Q E hr h => ⟨_, (pss_one ps_pass), init0_rd h⟩), T.be_Long, T.g_Long⟩
theorem er_BadPauses (T : TX K mg w G) : ErC P w K mg base T.c_BadPauses T.i_BadPauses T.e_BadPauses "BadPauses" 1 ["self"] spI0 :=
  ⟨T.ox_BadPauses, T.iC_BadPauses, T.tI_BadPauses, T.Fi_BadPauses.ok sc_BadPauses_init (fun vs H Q E h => by obtain ⟨a, rfl, _⟩ := h; rfl) (fun cdv A outer s H vs Q E hr h => ⟨_, (pss_one ps_pass), init0_rd h⟩), T.be_BadPauses, T.g_BadPauses⟩
theorem er_TooMany (T : TX K mg w G) : ErC P w K mg base T.c_TooMany T.i_TooMany T.e_TooMany "TooMany" 1 ["self"] spI0 :=
  ⟨T.ox_TooMany, T.iC_TooMany, T.tI_TooMany, T.Fi_TooMany.ok sc_TooMany_init (fun vs H Q E h => by obtain ⟨a, rfl, _⟩ := h; rfl) (fun cdv A outer s H vs Q E hr h => ⟨_, (pss_one ps_pass), init0_rd h⟩), T.be_TooMany, T.g_TooMany⟩
theorem er_Losing (T : TX K mg w G) : ErC P w K mg base T.c_Losing T.i_Losing T.e_Losing "Losing" 1 ["self", "index"] (spI1 T.c_Losing "index") :=
  ⟨T.ox_Losing, T.iC_Losing, T.tI_Losing, T.Fi_Losing.ok sc_Losing_init (fun vs H Q E h => by obtain ⟨a, y, rfl, _⟩ := h; rfl) (fun cdv A outer s H vs Q E hr h => ⟨_, (pss_one (ps_ost (pv 0) (pv 1))), init1_rd T.ox_Losing T.nf_Losing_index h⟩), T.be_Losing, T.g_Losing⟩
theorem er_BadState (T : TX K mg w G) : ErC P w K mg base T.c_BadState T.i_BadState T.e_BadState "BadState" 1 ["self"] spI0 :=
  ⟨T.ox_BadState, T.iC_BadState, T.tI_BadState, T.Fi_BadState.ok sc_BadState_init (fun vs H Q E h => by obtain ⟨a, rfl, _⟩ := h; rfl) (fun cdv A outer s H vs Q E hr h => ⟨_, (pss_one ps_pass), init0_rd h⟩), T.be_BadState, T.g_BadState⟩
theorem ok__has_form (T : TX K mg w G) : FnG P w K mg base 1 T.a__has_form T.d__has_form ["thing"] (spM K G 1 m__has_form) :=
  defM (body := b__has_form) T.F__has_form sc__has_form 2 1 rfl rfl (fun cdv A outer s H E hr hgd => (ms_cons (ms_if (PW.pt (mw_or (mt_not (mt_truth (me_callB ok_isiA rfl T.z_isinstance bt_isinstance (ma_cons (me_var 0) (ma_cons (me_ty Ty.tuple rfl T.z_tuple bt_tuple) ma_nil)))))
      (mw_or1 (mt_cmp (ok_eq hr.units) (me_callB ok_len rfl T.z_len bt_len (ma_cons (me_var 0) ma_nil)) me_int)))) (ms_one (ms_ret me_bl)) ms_nil) (ms_cons (ms_set (i := 1)
      sc__has_form.nd rfl (Or.inl rfl) (me_ix (me_var 0) me_int)) (ms_one (ms_ret (me_and (me_callB ok_isiA rfl T.z_isinstance bt_isinstance (ma_cons (me_var 1) (ma_cons (me_ty
      Ty.str rfl T.z_str bt_str) ma_nil))) (me_and (me_cmp (ok_kdIn T.gG_FORMS T.kt_FORMS) (me_var 1) (me_stat rfl T.g_FORMS T.gG_FORMS)) (me_one (me_cmp (ok_eq hr.units) (me_callB
      ok_len rfl T.z_len bt_len (ma_cons (me_var 0) ma_nil)) (me_op ok_add me_int (me_callB ok_len rfl T.z_len bt_len (ma_cons (me_kix T.gG_FORMS T.kt_FORMS (me_stat rfl T.g_FORMS
      T.gG_FORMS) (me_var 1)) ma_nil))))))))))))
theorem ok_is_within (T : TX K mg w G) : FnG P w K mg base 1 T.a_is_within T.d_is_within ["thing", "low", "high"] (spM K G 3 m_is_within) :=
  defM (body := b_is_within) T.F_is_within sc_is_within 3 3 rfl rfl (fun cdv A outer s H E hr hgd => (ms_one (ms_ret (me_and (me_callB ok_isiA rfl T.z_isinstance bt_isinstance (ma_cons (me_var 0) (ma_cons (me_ty Ty.int rfl T.z_int bt_int) ma_nil))) (me_and (me_not (me_callB
      ok_isiA rfl T.z_isinstance bt_isinstance (ma_cons (me_var 0) (ma_cons (me_ty Ty.bool rfl T.z_bool bt_bool) ma_nil)))) (me_one (me_chain ok_le ok_le (me_var 1) (me_var 0)
      (me_var 2))))))))
theorem ok__is_index (T : TX K mg w G) : FnG P w K mg base 2 T.a__is_index T.d__is_index ["shape", "thing"] (spM K G 2 m__is_index) :=
  defM (body := b__is_index) T.F__is_index sc__is_index 2 2 rfl rfl (fun cdv A outer s H E hr hgd => (ms_one (ms_ret (me_call (ok_is_within T) hgd (takes_of rfl rfl rfl rfl) (hr.mono (by decide)) rfl T.g_is_within T.F_is_within.kp T.b_is_within rfl (aCons_len (aCons_len (aCons_len
      aNil_len))) (ma_cons (me_var 1) (ma_cons me_int (ma_cons (me_op ok_sub (me_callB ok_len rfl T.z_len bt_len (ma_cons (me_var 0) ma_nil)) me_int) ma_nil)))))))
theorem ok__is_action (T : TX K mg w G) : FnG P w K mg base 3 T.a__is_action T.d__is_action ["shape", "thing"] (spM K G 2 m__is_action) :=
  defM (body := b__is_action) T.F__is_action sc__is_action 5 2 rfl rfl (fun cdv A outer s H E hr hgd => (ms_cons (ms_if (PW.pt (mw_or (mt_not (mt_truth (me_call (ok__has_form T) hgd (takes_of rfl rfl rfl rfl) (hr.mono (by decide)) rfl T.g__has_form T.F__has_form.kp T.b__has_form rfl
      (aCons_len aNil_len) (ma_cons (me_var 1) ma_nil)))) (mw_or1 (mt_not (mt_truth (me_call (ok__is_index T) hgd (takes_of rfl rfl rfl rfl) (hr.mono (by decide)) rfl T.g__is_index
      T.F__is_index.kp T.b__is_index rfl (aCons_len (aCons_len aNil_len)) (ma_cons (me_var 0) (ma_cons (me_ix (me_var 1) me_int) ma_nil)))))))) (ms_one (ms_ret me_bl)) ms_nil)
      (ms_cons (ms_par (i := 2) (j := 3) rfl sc__is_action.nd rfl rfl (by decide) rfl rfl (ma_cons (me_ix (me_var 1) me_int) (ma_cons (me_ix (me_var 1) me_int) ma_nil))) (ms_cons
      (ms_set (i := 4) sc__is_action.nd rfl (Or.inl rfl) (me_kix T.gG_FORMS T.kt_FORMS (me_stat rfl T.g_FORMS T.gG_FORMS) (me_var 2))) (ms_cons (ms_if (PW.pt (mw_and (mt_cmp (ok_in
      (hu65 hr)) me_str (me_var 4)) (mw_and1 (PW.pt (mw_or (mt_not (mt_truth (me_call (ok__is_index T) hgd (takes_of rfl rfl rfl rfl) (hr.mono (by decide)) rfl T.g__is_index
      T.F__is_index.kp T.b__is_index rfl (aCons_len (aCons_len aNil_len)) (ma_cons (me_var 0) (ma_cons (me_ix (me_var 1) me_int) ma_nil))))) (mw_or1 (mt_cmp (ok_eq hr.units) (me_ix
      (me_var 1) me_int) (me_var 3)))))))) (ms_one (ms_ret me_bl)) ms_nil) (ms_cons (ms_if (PW.pt (mw_and (mt_cmp (ok_in (hu65 hr)) me_str (me_var 4)) (mw_and1 (mt_not (mt_truth
      (me_call (ok_is_within T) hgd (takes_of rfl rfl rfl rfl) (hr.mono (by decide)) rfl T.g_is_within T.F_is_within.kp T.b_is_within rfl (aCons_len (aCons_len (aCons_len
      aNil_len))) (ma_cons (me_ix (me_var 1) (me_neg me_int)) (ma_cons me_int (ma_cons (me_op ok_sub (me_ix (me_var 0) (me_var 3)) me_int) ma_nil))))))))) (ms_one (ms_ret me_bl))
      ms_nil) (ms_one (ms_ret (me_or (me_cmp (ok_ne hr.units) (me_var 2) me_str) (me_one (me_cmp (ok_eq hr.units) (me_ix (me_var 0) (me_var 3)) (me_ix (me_var 0) (me_ix (me_var 1)
      me_int)))))))))))))
theorem ok__changed (T : TX K mg w G) : FnG P w K mg base 1 T.a__changed T.d__changed ["action"] (spM K G 1 m__changed) :=
  defM (body := b__changed) T.F__changed sc__changed 1 1 rfl rfl (fun cdv A outer s H E hr hgd => (ms_cons (ms_if (mt_cmp (ok_eq hr.units) (me_ix (me_var 0) me_int) me_str) (ms_one (ms_ret (me_sl (me_var 0) (mo_some me_int) mo_none))) ms_nil) (ms_one (ms_ret (me_sl (me_var 0)
      (mo_some me_int) (mo_some me_int))))))
theorem ok__is_condition (T : TX K mg w G) : FnG P w K mg base 3 T.a__is_condition T.d__is_condition ["shape", "thing"] (spM K G 2 m__is_condition) :=
  defM (body := b__is_condition) T.F__is_condition sc__is_condition 2 2 rfl rfl (fun cdv A outer s H E hr hgd => (ms_cons (ms_if (PW.pt (mw_or (mt_not (mt_truth (me_callB ok_isiA rfl T.z_isinstance bt_isinstance (ma_cons (me_var 1) (ma_cons (me_ty Ty.tuple rfl T.z_tuple bt_tuple) ma_nil)))))
      (mw_or (mt_cmp (ok_ne hr.units) (me_callB ok_len rfl T.z_len bt_len (ma_cons (me_var 1) ma_nil)) me_int) (mw_or1 (mt_not (mt_truth (me_call (ok__is_index T) hgd (takes_of rfl
      rfl rfl rfl) (hr.mono (by decide)) rfl T.g__is_index T.F__is_index.kp T.b__is_index rfl (aCons_len (aCons_len aNil_len)) (ma_cons (me_var 0) (ma_cons (me_ix (me_var 1)
      me_int) ma_nil))))))))) (ms_one (ms_ret me_bl)) ms_nil) (ms_one (ms_ret (me_call (ok_is_within T) hgd (takes_of rfl rfl rfl rfl) (hr.mono (by decide)) rfl T.g_is_within
      T.F_is_within.kp T.b_is_within rfl (aCons_len (aCons_len (aCons_len aNil_len))) (ma_cons (me_ix (me_var 1) me_int) (ma_cons me_int (ma_cons (me_op ok_sub (me_ix (me_var 0)
      (me_ix (me_var 1) me_int)) me_int) ma_nil))))))))
theorem ok__are_conditions (T : TX K mg w G) : FnG P w K mg base 4 T.a__are_conditions T.d__are_conditions ["shape", "thing", "action"] (spM K G 3 m__are_conditions) :=
  defM (body := b__are_conditions) T.F__are_conditions sc__are_conditions 6 3 rfl rfl (fun cdv A outer s H E hr hgd => (ms_cons (ms_if (mt_not (mt_truth (me_callB ok_isiA rfl T.z_isinstance bt_isinstance (ma_cons (me_var 1) (ma_cons (me_ty Ty.tuple rfl T.z_tuple bt_tuple) ma_nil))))) (ms_one
      (ms_ret me_bl)) ms_nil) (ms_cons (ms_set (i := 3) sc__are_conditions.nd rfl (Or.inl rfl) (me_call (ok__changed T) hgd (takes_of rfl rfl rfl rfl) (hr.mono (by decide)) rfl
      T.g__changed T.F__changed.kp T.b__changed rfl (aCons_len aNil_len) (ma_cons (me_var 2) ma_nil))) (ms_cons (ms_set (i := 4) sc__are_conditions.nd rfl (Or.inl rfl) (me_neg
      me_int)) (ms_cons (ms_for (passes_of rfl) rfl (mi_seq (me_var 1)) (mg_nm 5 sc__are_conditions.nd rfl (Or.inl rfl)) (ms_cons (ms_if (PW.pt (mw_or (mt_not (mt_truth (me_call
      (ok__is_condition T) hgd (takes_of rfl rfl rfl rfl) (hr.mono (by decide)) rfl T.g__is_condition T.F__is_condition.kp T.b__is_condition rfl (aCons_len (aCons_len aNil_len))
      (ma_cons (me_var 0) (ma_cons (me_var 5) ma_nil))))) (mw_or (mt_cmp ok_le (me_ix (me_var 5) me_int) (me_var 4)) (mw_or1 (mt_cmp (ok_in (hu65 hr)) (me_ix (me_var 5) me_int)
      (me_var 3)))))) (ms_one (ms_ret me_bl)) ms_nil) (ms_one (ms_set (i := 4) sc__are_conditions.nd rfl (Or.inl rfl) (me_ix (me_var 5) me_int))))) (ms_one (ms_ret me_bl)))))))
theorem ok_is_row (T : TX K mg w G) : FnG P w K mg base 5 T.a_is_row T.d_is_row ["shape", "thing"] (spM K G 2 m_is_row) :=
  defM (body := b_is_row) T.F_is_row sc_is_row 4 2 rfl rfl (fun cdv A outer s H E hr hgd => (ms_cons (ms_if (PW.pt (mw_or (mt_not (mt_truth (me_callB ok_isiA rfl T.z_isinstance bt_isinstance (ma_cons (me_var 1) (ma_cons (me_ty Ty.tuple rfl T.z_tuple bt_tuple) ma_nil)))))
      (mw_or1 (mt_cmp (ok_ne hr.units) (me_callB ok_len rfl T.z_len bt_len (ma_cons (me_var 1) ma_nil)) me_int)))) (ms_one (ms_ret me_bl)) ms_nil) (ms_cons (ms_asg (me_var 1)
      (mg_tp rfl (mgs_cons (mg_nm 2 sc_is_row.nd rfl (Or.inl rfl)) (mgs_cons (mg_nm 3 sc_is_row.nd rfl (Or.inl rfl)) mgs_nil)) rfl)) (ms_one (ms_ret (me_and (me_call (ok__is_action
      T) hgd (takes_of rfl rfl rfl rfl) (hr.mono (by decide)) rfl T.g__is_action T.F__is_action.kp T.b__is_action rfl (aCons_len (aCons_len aNil_len)) (ma_cons (me_var 0) (ma_cons
      (me_var 2) ma_nil))) (me_one (me_call (ok__are_conditions T) hgd (takes_of rfl rfl rfl rfl) (hr.mono (by decide)) rfl T.g__are_conditions T.F__are_conditions.kp
      T.b__are_conditions rfl (aCons_len (aCons_len (aCons_len aNil_len))) (ma_cons (me_var 0) (ma_cons (me_var 3) (ma_cons (me_var 2) ma_nil)))))))))))
theorem ok__first_no_row (T : TX K mg w G) : FnG P w K mg base 6 T.a__first_no_row T.d__first_no_row ["shape", "rows"] (spM K G 2 m__first_no_row) :=
  defM (body := b__first_no_row) T.F__first_no_row sc__first_no_row 4 2 rfl rfl (fun cdv A outer s H E hr hgd => (ms_cons (ms_if (mt_not (mt_truth (me_callB ok_isiA rfl T.z_isinstance bt_isinstance (ma_cons (me_var 1) (ma_cons (me_ty Ty.tuple rfl T.z_tuple bt_tuple) ma_nil))))) (ms_one
      (ms_ret me_int)) ms_nil) (ms_cons (ms_for (passes_of rfl) rfl (mi_enA rfl T.z_enumerate (ma_cons (me_var 1) ma_nil)) (mg_tp rfl (mgs_cons (mg_nm 2 sc__first_no_row.nd rfl
      (Or.inl rfl)) (mgs_cons (mg_nm 3 sc__first_no_row.nd rfl (Or.inl rfl)) mgs_nil)) rfl) (ms_one (ms_if (mt_not (mt_truth (me_call (ok_is_row T) hgd (takes_of rfl rfl rfl rfl)
      (hr.mono (by decide)) rfl T.g_is_row T.F_is_row.kp T.b_is_row rfl (aCons_len (aCons_len aNil_len)) (ma_cons (me_var 0) (ma_cons (me_var 3) ma_nil))))) (ms_one (ms_ret (me_var
      2))) ms_nil))) (ms_one (ms_ret me_non)))))
theorem ok_is_shape (T : TX K mg w G) : FnG P w K mg base 2 T.a_is_shape T.d_is_shape ["thing"] (spM K G 1 m_is_shape) :=
  defM (body := b_is_shape) T.F_is_shape sc_is_shape 3 1 rfl rfl (fun cdv A outer s H E hr hgd => (ms_cons (ms_if (PW.pt (mw_or (mt_not (mt_truth (me_callB ok_isiA rfl T.z_isinstance bt_isinstance (ma_cons (me_var 0) (ma_cons (me_ty Ty.tuple rfl T.z_tuple bt_tuple) ma_nil)))))
      (mw_or1 (mt_not (mt_chain ok_le ok_le me_int (me_callB ok_len rfl T.z_len bt_len (ma_cons (me_var 0) ma_nil)) (me_globI rfl T.g__MOST_BASES ⟨_, rfl⟩)))))) (ms_one (ms_ret
      me_bl)) ms_nil) (ms_cons (ms_set (i := 1) sc_is_shape.nd rfl (Or.inl rfl) me_int) (ms_cons (ms_for (passes_of rfl) rfl (mi_seq (me_var 0)) (mg_nm 2 sc_is_shape.nd rfl (Or.inl
      rfl)) (ms_cons (ms_if (mt_not (mt_truth (me_call (ok_is_within T) hgd (takes_of rfl rfl rfl rfl) (hr.mono (by decide)) rfl T.g_is_within T.F_is_within.kp T.b_is_within rfl
      (aCons_len (aCons_len (aCons_len aNil_len))) (ma_cons (me_var 2) (ma_cons me_int (ma_cons (me_globI rfl T.g__GREATEST_BASE ⟨_, rfl⟩) ma_nil)))))) (ms_one (ms_ret me_bl))
      ms_nil) (ms_one (ms_set (i := 1) sc_is_shape.nd rfl (Or.inl rfl) (me_op ok_mul (me_var 1) (me_var 2)))))) (ms_one (ms_ret (me_cmp ok_le (me_var 1) (me_globI rfl
      T.g__MOST_STATES ⟨_, rfl⟩))))))))
theorem ok__are_pauses (T : TX K mg w G) : FnG P w K mg base 2 T.a__are_pauses T.d__are_pauses ["thing", "end"] (spM K G 2 m__are_pauses) :=
  defM (body := b__are_pauses) T.F__are_pauses sc__are_pauses 4 2 rfl rfl (fun cdv A outer s H E hr hgd => (ms_cons (ms_if (PW.pt (mw_or (mt_not (mt_truth (me_callB ok_isiA rfl T.z_isinstance bt_isinstance (ma_cons (me_var 0) (ma_cons (me_ty Ty.tuple rfl T.z_tuple bt_tuple) ma_nil)))))
      (mw_or1 (mt_cmp ok_gt (me_callB ok_len rfl T.z_len bt_len (ma_cons (me_var 0) ma_nil)) (me_globI rfl T.g_MOST_PAUSES ⟨_, rfl⟩))))) (ms_one (ms_ret me_bl)) ms_nil) (ms_cons
      (ms_set (i := 2) sc__are_pauses.nd rfl (Or.inl rfl) me_int) (ms_cons (ms_for (passes_of rfl) rfl (mi_seq (me_var 0)) (mg_nm 3 sc__are_pauses.nd rfl (Or.inl rfl)) (ms_cons
      (ms_if (mt_not (mt_truth (me_call (ok_is_within T) hgd (takes_of rfl rfl rfl rfl) (hr.mono (by decide)) rfl T.g_is_within T.F_is_within.kp T.b_is_within rfl (aCons_len
      (aCons_len (aCons_len aNil_len))) (ma_cons (me_var 3) (ma_cons (me_op ok_add (me_var 2) me_int) (ma_cons (me_op ok_sub (me_var 1) me_int) ma_nil)))))) (ms_one (ms_ret me_bl))
      ms_nil) (ms_one (ms_set (i := 2) sc__are_pauses.nd rfl (Or.inl rfl) (me_var 3))))) (ms_one (ms_ret me_bl))))))
theorem ok_Program___init__ (T : TX K mg w G) : FnG P w K mg base 7 T.a_Program___init__ T.d_Program___init__ ["self", "shape", "rows", "pauses"] (spM K G 4 m_Program___init__) :=
  defM (body := b_Program___init__) T.F_Program___init__ sc_Program___init__ 5 4 rfl rfl (fun cdv A outer s H E hr hgd => (ms_cons (ms_if (mt_not (mt_truth (me_call (ok_is_shape T) hgd (takes_of rfl rfl rfl rfl) (hr.mono (by decide)) rfl T.g_is_shape T.F_is_shape.kp T.b_is_shape rfl (aCons_len
      aNil_len) (ma_cons (me_var 1) ma_nil)))) (ms_one (ms_raise0 T.gG_BadShape rfl (er_BadShape T) (takes_of rfl rfl rfl rfl) (hr.mono (by decide)) rfl)) ms_nil) (ms_cons (ms_set
      (i := 4) sc_Program___init__.nd rfl (Or.inl rfl) (me_call (ok__first_no_row T) hgd (takes_of rfl rfl rfl rfl) (hr.mono (by decide)) rfl T.g__first_no_row T.F__first_no_row.kp
      T.b__first_no_row rfl (aCons_len (aCons_len aNil_len)) (ma_cons (me_var 1) (ma_cons (me_var 2) ma_nil)))) (ms_cons (ms_if (mt_cmp ok_isNot (me_var 4) me_non) (ms_one
      (ms_raise1 T.gG_BadRow rfl (er_BadRow T) (takes_of rfl rfl rfl rfl) (hr.mono (by decide)) rfl (ma_cons (me_var 4) ma_nil))) ms_nil) (ms_cons (ms_if (mt_cmp ok_gt (me_callB
      ok_len rfl T.z_len bt_len (ma_cons (me_var 2) ma_nil)) (me_globI rfl T.g_MOST_ROWS ⟨_, rfl⟩)) (ms_one (ms_raise0 T.gG_Long rfl (er_Long T) (takes_of rfl rfl rfl rfl) (hr.mono
      (by decide)) rfl)) ms_nil) (ms_cons (ms_if (mt_not (mt_truth (me_call (ok__are_pauses T) hgd (takes_of rfl rfl rfl rfl) (hr.mono (by decide)) rfl T.g__are_pauses
      T.F__are_pauses.kp T.b__are_pauses rfl (aCons_len (aCons_len aNil_len)) (ma_cons (me_var 3) (ma_cons (me_callB ok_len rfl T.z_len bt_len (ma_cons (me_var 2) ma_nil))
      ma_nil))))) (ms_one (ms_raise0 T.gG_BadPauses rfl (er_BadPauses T) (takes_of rfl rfl rfl rfl) (hr.mono (by decide)) rfl)) ms_nil) (ms_cons (ms_fld (ClF.one T.gG_Program
      T.cl_Program T.na_Program_shape) (by decide) (me_var 0) (me_var 1)) (ms_cons (ms_fld (ClF.one T.gG_Program T.cl_Program T.na_Program_rows) (by decide) (me_var 0) (me_var 2))
      (ms_cons (ms_fld (ClF.one T.gG_Program T.cl_Program T.na_Program_pauses) (by decide) (me_var 0) (me_var 3)) (ms_cons (ms_fldN (ClF.one T.gG_Program T.cl_Program
      T.na_Program_places) (me_var 0) (me_tupN (ma_cons me_int ma_nil))) (ms_one (ms_if (mt_cmp ok_gt (me_callB ok_len rfl T.z_len bt_len (ma_cons (me_var 2) ma_nil)) me_int)
      (ms_one (ms_fldN (ClF.one T.gG_Program T.cl_Program T.na_Program_places) (me_var 0) (me_catN (me_catN (me_tupN (ma_cons me_int ma_nil)) (me_var 3)) (me_tup (ma_cons (me_callB
      ok_len rfl T.z_len bt_len (ma_cons (me_var 2) ma_nil)) ma_nil))))) ms_nil))))))))))))
theorem ok_check_positions (T : TX K mg w G) : FnG P w K mg base 3 T.a_check_positions T.d_check_positions ["programs", "most"] (spM K G 2 m_check_positions) :=
  defMV (body := b_check_positions) T.F_check_positions sc_check_positions 4 2 rfl rfl (fun cdv A outer s H E hr hgd => (ms_cons (ms_set (i := 2) sc_check_positions.nd rfl (Or.inl rfl) me_int) (ms_cons (ms_for (passes_of rfl) rfl (mi_seq (me_var 0)) (mg_nm 3 sc_check_positions.nd rfl (Or.inl rfl))
      (ms_one (ms_set (i := 2) sc_check_positions.nd rfl (Or.inl rfl) (me_op ok_mul (me_var 2) (me_callB ok_len rfl T.z_len bt_len (ma_cons (me_fld (ClF.one T.gG_Program
      T.cl_Program T.na_Program_places) (me_var 3)) ma_nil)))))) (ms_one (ms_if (mt_cmp ok_gt (me_var 2) (me_var 1)) (ms_one (ms_raise0 T.gG_TooMany rfl (er_TooMany T) (takes_of
      rfl rfl rfl rfl) (hr.mono (by decide)) rfl)) ms_nil)))))
theorem ok_loses (T : TX K mg w G) : FnG P w K mg base 1 T.a_loses T.d_loses ["shape", "row"] (spM K G 2 m_loses) :=
  defM (body := b_loses) T.F_loses sc_loses 3 2 rfl rfl (fun cdv A outer s H E hr hgd => (ms_cons (ms_set (i := 2) sc_loses.nd rfl (Or.inl rfl) (me_ix (me_var 1) me_int)) (ms_cons (ms_if (mt_cmp (ok_eq hr.units) (me_ix (me_var 2) me_int) me_str) (ms_one (ms_ret (me_cmp
      ok_gt (me_callL ok_gcd rfl T.g_gcd (ma_cons (me_ix (me_var 2) me_int) (ma_cons (me_ix (me_var 0) (me_ix (me_var 2) me_int)) ma_nil))) me_int))) ms_nil) (ms_one (ms_ret
      (me_cmp (ok_in (hu65 hr)) (me_ix (me_var 2) me_int) (me_tup (ma_cons me_str (ma_cons me_str ma_nil)))))))))
theorem ok_first_losing (T : TX K mg w G) : FnG P w K mg base 2 T.a_first_losing T.d_first_losing ["program"] (spM K G 1 m_first_losing) :=
  defM (body := b_first_losing) T.F_first_losing sc_first_losing 3 1 rfl rfl (fun cdv A outer s H E hr hgd => (ms_cons (ms_for (passes_of rfl) rfl (mi_enA rfl T.z_enumerate (ma_cons (me_fld (ClF.one T.gG_Program T.cl_Program T.na_Program_rows) (me_var 0)) ma_nil)) (mg_tp rfl (mgs_cons
      (mg_nm 1 sc_first_losing.nd rfl (Or.inl rfl)) (mgs_cons (mg_nm 2 sc_first_losing.nd rfl (Or.inl rfl)) mgs_nil)) rfl) (ms_one (ms_if (mt_truth (me_call (ok_loses T) hgd
      (takes_of rfl rfl rfl rfl) (hr.mono (by decide)) rfl T.g_loses T.F_loses.kp T.b_loses rfl (aCons_len (aCons_len aNil_len)) (ma_cons (me_fld (ClF.one T.gG_Program T.cl_Program
      T.na_Program_shape) (me_var 0)) (ma_cons (me_var 2) ma_nil)))) (ms_one (ms_ret (me_var 1))) ms_nil))) (ms_one (ms_ret me_non))))
theorem ok_check_losing (T : TX K mg w G) : FnG P w K mg base 3 T.a_check_losing T.d_check_losing ["programs"] (spM K G 1 m_check_losing) :=
  defM (body := b_check_losing) T.F_check_losing sc_check_losing 3 1 rfl rfl (fun cdv A outer s H E hr hgd => (ms_one (ms_for (passes_of rfl) rfl (mi_enA rfl T.z_enumerate (ma_cons (me_var 0) ma_nil)) (mg_tp rfl (mgs_cons (mg_nm 1 sc_check_losing.nd rfl (Or.inl rfl)) (mgs_cons (mg_nm 2
      sc_check_losing.nd rfl (Or.inl rfl)) mgs_nil)) rfl) (ms_one (ms_if (mt_cmp ok_isNot (me_call (ok_first_losing T) hgd (takes_of rfl rfl rfl rfl) (hr.mono (by decide)) rfl
      T.g_first_losing T.F_first_losing.kp T.b_first_losing rfl (aCons_len aNil_len) (ma_cons (me_var 2) ma_nil)) me_non) (ms_one (ms_raise1 T.gG_Losing rfl (er_Losing T) (takes_of
      rfl rfl rfl rfl) (hr.mono (by decide)) rfl (ma_cons (me_var 1) ma_nil))) ms_nil)))))
theorem ok_is_state (T : TX K mg w G) : FnG P w K mg base 2 T.a_is_state T.d_is_state ["shape", "thing"] (spM K G 2 m_is_state) :=
  defM (body := b_is_state) T.F_is_state sc_is_state 4 2 rfl rfl (fun cdv A outer s H E hr hgd => (ms_cons (ms_if (PW.pt (mw_or (mt_not (mt_truth (me_callB ok_isiA rfl T.z_isinstance bt_isinstance (ma_cons (me_var 1) (ma_cons (me_ty Ty.tuple rfl T.z_tuple bt_tuple) ma_nil)))))
      (mw_or1 (mt_cmp (ok_ne hr.units) (me_callB ok_len rfl T.z_len bt_len (ma_cons (me_var 1) ma_nil)) (me_callB ok_len rfl T.z_len bt_len (ma_cons (me_var 0) ma_nil)))))) (ms_one
      (ms_ret me_bl)) ms_nil) (ms_one (ms_ret (me_callB (ok_all rfl) rfl T.z_all bt_all (ma_cons (me_lc (own := [("base", 2), ("digit", 3)]) rfl sc_is_state.nd (mi_zpA rfl T.z_zip
      (ma_cons (me_var 0) (ma_cons (me_var 1) ma_nil))) (blkOk_by (own := [("base", 2), ("digit", 3)]) (N := nm_is_state) (sc := defScope st_is_state) (by decide +kernel)) (by
      decide) (fun _ _ _ _ _ => (mg_tp rfl (mgs_cons (mg_nm 2 sc_is_state.nd rfl (Or.inl rfl)) (mgs_cons (mg_nm 3 sc_is_state.nd rfl (Or.inl rfl)) mgs_nil)) rfl)) (fun _ _ _ _ _ =>
      mts_nil) (fun _ _ _ _ _ => (me_call (ok_is_within T) hgd takes0 (hr.mono (by decide)) rfl T.g_is_within T.F_is_within.kp T.b_is_within rfl (aCons_len (aCons_len (aCons_len
      aNil_len))) (ma_cons (me_var 3) (ma_cons me_int (ma_cons (me_op ok_sub (me_var 2) me_int) ma_nil)))))) ma_nil))))))
theorem ok_check_start (T : TX K mg w G) : FnG P w K mg base 3 T.a_check_start T.d_check_start ["programs", "start"] (spM K G 2 m_check_start) :=
  defM (body := b_check_start) T.F_check_start sc_check_start 2 2 rfl rfl (fun cdv A outer s H E hr hgd => (ms_one (ms_if (PW.pt (mw_and (mt_cmp ok_gt (me_callB ok_len rfl T.z_len bt_len (ma_cons (me_var 0) ma_nil)) me_int) (mw_and1 (mt_not (mt_truth (me_call (ok_is_state T) hgd
      (takes_of rfl rfl rfl rfl) (hr.mono (by decide)) rfl T.g_is_state T.F_is_state.kp T.b_is_state rfl (aCons_len (aCons_len aNil_len)) (ma_cons (me_fld (ClF.one T.gG_Program
      T.cl_Program T.na_Program_shape) (me_ix (me_var 0) me_int)) (ma_cons (me_var 1) ma_nil)))))))) (ms_one (ms_raise0 T.gG_BadState rfl (er_BadState T) (takes_of rfl rfl rfl rfl)
      (hr.mono (by decide)) rfl)) ms_nil)))
theorem ok_check_choice (T : TX K mg w G) : FnG P w K mg base 4 T.a_check_choice T.d_check_choice ["programs", "start", "most"] (spM K G 3 m_check_choice) :=
  defMV (body := b_check_choice) T.F_check_choice sc_check_choice 3 3 rfl rfl (fun cdv A outer s H E hr hgd => (ms_cons (ms_expr (me_callK (ok_check_positions T) hgd (takes_of rfl rfl rfl rfl) (hr.mono (by decide)) rfl T.g_check_positions T.F_check_positions.kp T.kb_0
      (fun us ws h1 h2 => match us, ws, h1, h2 with | [_, _], [], _, _ => rfl) (ma_cons (me_var 0) (ma_cons (me_var 2) ma_nil)) mk_nil)) (ms_cons (ms_expr (me_call (ok_check_losing
      T) hgd (takes_of rfl rfl rfl rfl) (hr.mono (by decide)) rfl T.g_check_losing T.F_check_losing.kp T.b_check_losing rfl (aCons_len aNil_len) (ma_cons (me_var 0) ma_nil)))
      (ms_one (ms_expr (me_call (ok_check_start T) hgd (takes_of rfl rfl rfl rfl) (hr.mono (by decide)) rfl T.g_check_start T.F_check_start.kp T.b_check_start rfl (aCons_len
      (aCons_len aNil_len)) (ma_cons (me_var 0) (ma_cons (me_var 1) ma_nil))))))))
theorem ok_Prefixes___init__ (T : TX K mg w G) : FnG P w K mg base 1 T.a_Prefixes___init__ T.d_Prefixes___init__ ["self", "whole"] (spM K G 2 m_Prefixes___init__) :=
  defM (body := b_Prefixes___init__) T.F_Prefixes___init__ sc_Prefixes___init__ 2 2 rfl rfl (fun cdv A outer s H E hr hgd => (ms_cons (ms_fld (ClF.one T.gG_Prefixes T.cl_Prefixes T.na_Prefixes_whole) (by decide) (me_var 0) (me_var 1)) (ms_one (ms_fld (ClF.one T.gG_Prefixes T.cl_Prefixes
      T.na_Prefixes_logs) (by decide) (me_var 0) me_dnew))))
theorem ok_prefixes_of (T : TX K mg w G) : FnG P w K mg base 3 T.a_prefixes_of T.d_prefixes_of ["programs"] (spM K G 1 m_prefixes_of) :=
  defM (body := b_prefixes_of) T.F_prefixes_of sc_prefixes_of 2 1 rfl rfl (fun cdv A outer s H E hr hgd => (ms_one (ms_ret (me_lc (own := [("program", 1)]) rfl sc_prefixes_of.nd (mi_seq (me_var 0)) (blkOk_by (own := [("program", 1)]) (N := nm_prefixes_of) (sc := defScope st_prefixes_of)
      (by decide +kernel)) (by decide) (fun _ _ _ _ _ => (mg_nm 1 sc_prefixes_of.nd rfl (Or.inl rfl))) (fun _ _ _ _ _ => mts_nil) (fun _ _ _ _ _ => (me_make T.gG_Prefixes
      T.mk_Prefixes (ok_Prefixes___init__ T) hgd takes0 (hr.mono (by decide)) (by rfl) T.g_Prefixes T.kb_1 (fun us ws h1 h2 => match us, ws, h1, h2 with | [_, _], [], _, _ => rfl)
      (ma_cons (me_var 1) ma_nil) mk_nil))))))
theorem ok__new_digit (T : TX K mg w G) : FnG P w K mg base 1 T.a__new_digit T.d__new_digit ["action", "state"] (spM K G 2 m__new_digit) :=
  defM (body := b__new_digit) T.F__new_digit sc__new_digit 4 2 rfl rfl (fun cdv A outer s H E hr hgd => (ms_cons (ms_par (i := 2) (j := 3) rfl sc__new_digit.nd rfl rfl (by decide) rfl rfl (ma_cons (me_ix (me_var 0) me_int) (ma_cons (me_ix (me_var 0) me_int) ma_nil))) (ms_cons (ms_if
      (mt_cmp (ok_eq hr.units) (me_var 2) me_str) (ms_one (ms_ret (me_op ok_add (me_ix (me_var 1) (me_var 3)) (me_ix (me_var 0) me_int)))) ms_nil) (ms_cons (ms_if (mt_cmp (ok_eq
      hr.units) (me_var 2) me_str) (ms_one (ms_ret (me_op ok_add (me_ix (me_var 1) (me_var 3)) (me_op ok_mul (me_ix (me_var 0) me_int) (me_ix (me_var 1) (me_ix (me_var 0)
      me_int)))))) ms_nil) (ms_cons (ms_if (mt_cmp (ok_eq hr.units) (me_var 2) me_str) (ms_one (ms_ret (me_op ok_mul (me_ix (me_var 1) (me_var 3)) (me_ix (me_var 0) me_int))))
      ms_nil) (ms_cons (ms_if (mt_cmp (ok_eq hr.units) (me_var 2) me_str) (ms_one (ms_ret (me_ix (me_var 0) me_int))) ms_nil) (ms_one (ms_ret (me_ix (me_var 1) (me_ix (me_var 0)
      me_int))))))))))
theorem ok_done (T : TX K mg w G) : FnG P w K mg base 2 T.a_done T.d_done ["shape", "row", "state"] (spM K G 3 m_done) :=
  defM (body := b_done) T.F_done sc_done 9 3 rfl rfl (fun cdv A outer s H E hr hgd => (ms_cons (ms_asg (me_var 1) (mg_tp rfl (mgs_cons (mg_nm 3 sc_done.nd rfl (Or.inl rfl)) (mgs_cons (mg_nm 4 sc_done.nd rfl (Or.inl rfl)) mgs_nil)) rfl)) (ms_cons (ms_if (mt_not
      (mt_truth (me_callB (ok_all rfl) rfl T.z_all bt_all (ma_cons (me_lc (own := [("j", 7), ("v", 8)]) rfl sc_done.nd (mi_seq (me_var 4)) (blkOk_by (own := [("j", 7), ("v", 8)])
      (N := nm_done) (sc := defScope st_done) (by decide +kernel)) (by decide) (fun _ _ _ _ _ => (mg_tp rfl (mgs_cons (mg_nm 7 sc_done.nd rfl (Or.inl rfl)) (mgs_cons (mg_nm 8
      sc_done.nd rfl (Or.inl rfl)) mgs_nil)) rfl)) (fun _ _ _ _ _ => mts_nil) (fun _ _ _ _ _ => (me_cmp (ok_eq hr.units) (me_ix (me_var 2) (me_var 7)) (me_var 8)))) ma_nil))))
      (ms_one (ms_ret (me_var 2))) ms_nil) (ms_cons (ms_set (i := 5) sc_done.nd rfl (Or.inl rfl) (me_ix (me_var 3) me_int)) (ms_cons (ms_set (i := 6) sc_done.nd rfl (Or.inl rfl)
      (me_callTy ok_list rfl T.z_list bt_list (ma_cons (me_var 2) ma_nil))) (ms_cons (ms_sub (me_op ok_mod (me_call (ok__new_digit T) hgd (takes_of rfl rfl rfl rfl) (hr.mono (by
      decide)) rfl T.g__new_digit T.F__new_digit.kp T.b__new_digit rfl (aCons_len (aCons_len aNil_len)) (ma_cons (me_var 3) (ma_cons (me_var 2) ma_nil))) (me_ix (me_var 0) (me_var
      5))) (me_var 6) (me_var 5)) (ms_cons (ms_if (mt_cmp (ok_eq hr.units) (me_ix (me_var 3) me_int) me_str) (ms_one (ms_sub (me_ix (me_var 2) (me_var 5)) (me_var 6) (me_ix (me_var
      3) me_int))) ms_nil) (ms_one (ms_ret (me_callTy ok_tuple rfl T.z_tuple bt_tuple (ma_cons (me_var 6) ma_nil)))))))))))
theorem ok_log (T : TX K mg w G) : FnG P w K mg base 3 T.a_log T.d_log ["program", "state"] (spM K G 2 m_log) :=
  defM (body := b_log) T.F_log sc_log 4 2 rfl rfl (fun cdv A outer s H E hr hgd => (ms_cons (ms_if (mt_not (mt_truth (me_call (ok_is_state T) hgd (takes_of rfl rfl rfl rfl) (hr.mono (by decide)) rfl T.g_is_state T.F_is_state.kp T.b_is_state rfl (aCons_len
      (aCons_len aNil_len)) (ma_cons (me_fld (ClF.one T.gG_Program T.cl_Program T.na_Program_shape) (me_var 0)) (ma_cons (me_var 1) ma_nil))))) (ms_one (ms_raise0 T.gG_BadState rfl
      (er_BadState T) (takes_of rfl rfl rfl rfl) (hr.mono (by decide)) rfl)) ms_nil) (ms_cons (ms_set (i := 2) sc_log.nd rfl (Or.inl rfl) (me_lst (ma_cons (me_var 1) ma_nil)))
      (ms_cons (ms_for (passes_of rfl) rfl (mi_seq (me_fld (ClF.one T.gG_Program T.cl_Program T.na_Program_rows) (me_var 0))) (mg_nm 3 sc_log.nd rfl (Or.inl rfl)) (ms_one (ms_expr
      (me_append (fun _ _ _ q => app_rd q) (pe_bm PySem.F.plainAttrs_list PySem.F.slot_list_append PySem.F.type_list_append mt_append (me_var 2) (ma_cons (me_call (ok_done T) hgd
      (takes_of rfl rfl rfl rfl) (hr.mono (by decide)) rfl T.g_done T.F_done.kp T.b_done rfl (aCons_len (aCons_len (aCons_len aNil_len))) (ma_cons (me_fld (ClF.one T.gG_Program
      T.cl_Program T.na_Program_shape) (me_var 0)) (ma_cons (me_var 3) (ma_cons (me_ix (me_var 2) (me_neg me_int)) ma_nil)))) ma_nil)))))) (ms_one (ms_ret (me_var 2)))))))
theorem ok_Prefixes_end (T : TX K mg w G) : FnG P w K mg base 4 T.a_Prefixes_end T.d_Prefixes_end ["self", "many", "state"] (spM K G 3 m_Prefixes_end) :=
  defM (body := b_Prefixes_end) T.F_Prefixes_end sc_Prefixes_end 3 3 rfl rfl (fun cdv A outer s H E hr hgd => (ms_cons (ms_if (mt_cmp (ok_notInA hr) (me_var 2) (me_fld (ClF.one T.gG_Prefixes T.cl_Prefixes T.na_Prefixes_logs) (me_var 0))) (ms_one (ms_subA hr (me_call (ok_log T) hgd
      (takes_of rfl rfl rfl rfl) (hr.mono (by decide)) rfl T.g_log T.F_log.kp T.b_log rfl (aCons_len (aCons_len aNil_len)) (ma_cons (me_fld (ClF.one T.gG_Prefixes T.cl_Prefixes
      T.na_Prefixes_whole) (me_var 0)) (ma_cons (me_var 2) ma_nil))) (me_fld (ClF.one T.gG_Prefixes T.cl_Prefixes T.na_Prefixes_logs) (me_var 0)) (me_var 2))) ms_nil) (ms_one
      (ms_ret (me_ix (me_ixA hr (me_fld (ClF.one T.gG_Prefixes T.cl_Prefixes T.na_Prefixes_logs) (me_var 0)) (me_var 2)) (me_var 1))))))
theorem ok_Program___len__ (T : TX K mg w G) : FnG P w K mg base 1 T.a_Program___len__ T.d_Program___len__ ["self"] (spM K G 1 m_Program___len__) :=
  defM (body := b_Program___len__) T.F_Program___len__ sc_Program___len__ 1 1 rfl rfl (fun cdv A outer s H E hr hgd => (ms_one (ms_ret (me_callB ok_len rfl T.z_len bt_len (ma_cons (me_fld (ClF.one T.gG_Program T.cl_Program T.na_Program_rows) (me_var 0)) ma_nil)))))
theorem ok__whole_ways (T : TX K mg w G) : FnG P w K mg base 5 T.a__whole_ways T.d__whole_ways ["prefixes", "start", "rounds"] (spM K G 3 m__whole_ways) :=
  defM (body := b__whole_ways) T.F__whole_ways sc__whole_ways 9 3 rfl rfl (fun cdv A outer s H E hr hgd => (ms_cons (ms_set (i := 3) sc__whole_ways.nd rfl (Or.inl rfl) (me_or2 (me_dct (ps := [((eVar 1), (eLst aNil))]) (pps_cons (me_var 1) (me_lst ma_nil) pps_nil) rfl rfl (by simp) (by
      decide)) (me_dctT (ps := [((eVar 1), (eLst aNil))]) hr (pps_cons (me_var 1) (me_lst ma_nil) pps_nil) rfl rfl (by simp) (by decide)))) (ms_cons (ms_set (i := 4)
      sc__whole_ways.nd rfl (Or.inl rfl) (me_lst (ma_cons (me_var 1) ma_nil))) (ms_cons (ms_set (i := 5) sc__whole_ways.nd rfl (Or.inl rfl) me_int) (ms_cons (ms_while (passes_of
      rfl) (mt_cmp ok_lt (me_var 5) (me_callB ok_len rfl T.z_len bt_len (ma_cons (me_var 4) ma_nil))) (ms_cons (ms_set (i := 6) sc__whole_ways.nd rfl (Or.inl rfl) (me_ix (me_var 4)
      (me_var 5))) (ms_cons (ms_for (passes_of rfl) rfl (mi_seq (me_var 2)) (mg_nm 7 sc__whole_ways.nd rfl (Or.inl rfl)) (ms_cons (ms_set (i := 8) sc__whole_ways.nd rfl (Or.inl
      rfl) (me_meth T.gG_Prefixes T.cl_Prefixes T.m_Prefixes_end (ok_Prefixes_end T) hgd (takes_of rfl rfl rfl rfl) (hr.mono (by decide)) T.kb_2
      (fun us ws h1 h2 => match us, ws, h1, h2 with | [_, _, _], [], _, _ => rfl) (me_ix (me_var 0) (me_var 7)) (ma_cons (me_callB (ok_ownLen (OwnM.mk T.gG_Program T.cl_Program
      T.m_Program___len__.at_ T.m_Program___len__.fn (ok_Program___len__ T) T.b_Program___len__) hgd (hr.mono (by decide))) rfl T.z_len bt_len (ma_cons (me_fld (ClF.one
      T.gG_Prefixes T.cl_Prefixes T.na_Prefixes_whole) (me_ix (me_var 0) (me_var 7))) ma_nil)) (ma_cons (me_var 6) ma_nil)) mk_nil)) (ms_one (ms_if (mt_cmp (ok_notInA hr) (me_var
      8) (me_var 3)) (ms_cons (ms_subA hr (me_op ok_add (me_ixA hr (me_var 3) (me_var 6)) (me_lst (ma_cons (me_var 7) ma_nil))) (me_var 3) (me_var 8)) (ms_one (ms_expr (me_append
      (fun _ _ _ q => app_rd q) (pe_bm PySem.F.plainAttrs_list PySem.F.slot_list_append PySem.F.type_list_append mt_append (me_var 4) (ma_cons (me_var 8) ma_nil)))))) ms_nil))))
      (ms_one (ms_aug (i := 5) ok_iadd sc__whole_ways.nd rfl (Or.inl rfl) me_int))))) (ms_one (ms_ret (me_var 3))))))))
theorem ok_stretch_counts (T : TX K mg w G) : FnG P w K mg base 1 T.a_stretch_counts T.d_stretch_counts ["programs"] (spM K G 1 m_stretch_counts) :=
  defM (body := b_stretch_counts) T.F_stretch_counts sc_stretch_counts 2 1 rfl rfl (fun cdv A outer s H E hr hgd => (ms_one (ms_ret (me_lc (own := [("program", 1)]) rfl sc_stretch_counts.nd (mi_seq (me_var 0)) (blkOk_by (own := [("program", 1)]) (N := nm_stretch_counts) (sc := defScope
      st_stretch_counts) (by decide +kernel)) (by decide) (fun _ _ _ _ _ => (mg_nm 1 sc_stretch_counts.nd rfl (Or.inl rfl))) (fun _ _ _ _ _ => mts_nil) (fun _ _ _ _ _ => (me_op
      ok_sub (me_callB ok_len rfl T.z_len bt_len (ma_cons (me_fld (ClF.one T.gG_Program T.cl_Program T.na_Program_places) (me_var 1)) ma_nil)) me_int))))))
theorem ok_positions_of (T : TX K mg w G) : FnG P w K mg base 1 T.a_positions_of T.d_positions_of ["programs"] (spM K G 1 m_positions_of) :=
  defM (body := b_positions_of) T.F_positions_of sc_positions_of 5 1 rfl rfl (fun cdv A outer s H E hr hgd => (ms_cons (ms_set (i := 1) sc_positions_of.nd rfl (Or.inl rfl) (me_lst (ma_cons (me_tup ma_nil) ma_nil))) (ms_cons (ms_for (passes_of rfl) rfl (mi_seq (me_var 0)) (mg_nm 2
      sc_positions_of.nd rfl (Or.inr rfl)) (ms_one (ms_setLc2 (own := [("places", 3), ("place", 4)]) (i := 1) rfl sc_positions_of.nd rfl rfl (sw_true rfl rfl rfl
      (by decide +kernel)) (mi_seq (me_var 1)) (blkOk_by (own := [("places", 3), ("place", 4)]) (N := nm_positions_of) (sc := defScope st_positions_of) (by decide +kernel)) (vs1 :=
      [4]) (by decide) (by decide) (by decide) (fun _ _ _ _ _ => (mg_nm 3 sc_positions_of.nd rfl (Or.inl rfl))) (fun _ _ _ _ _ => mts_nil) (fun _ _ _ _ _ => (mi_seq (me_fld
      (ClF.one T.gG_Program T.cl_Program T.na_Program_places) (me_var 2)))) (fun _ _ _ _ _ => (mg_nm 4 sc_positions_of.nd rfl (Or.inl rfl))) (fun _ _ _ _ _ => mts_nil) (fun _ _ _ _
      _ => (me_op ok_add (me_var 3) (me_tup (ma_cons (me_var 4) ma_nil))))))) (ms_one (ms_ret (me_var 1))))))
theorem ok__ends (T : TX K mg w G) : FnG P w K mg base 5 T.a__ends T.d__ends ["prefixes", "found", "places"] (spM K G 3 m__ends) :=
  defM (body := b__ends) T.F__ends sc__ends 7 3 rfl rfl (fun cdv A outer s H E hr hgd => (ms_cons (ms_set (i := 3) sc__ends.nd rfl (Or.inl rfl) me_dnew) (ms_cons (ms_for (passes_of rfl) rfl (mi_enA rfl T.z_enumerate (ma_cons (me_var 2) ma_nil)) (mg_tp rfl (mgs_cons
      (mg_nm 4 sc__ends.nd rfl (Or.inl rfl)) (mgs_cons (mg_nm 5 sc__ends.nd rfl (Or.inl rfl)) mgs_nil)) rfl) (ms_one (ms_if (mt_cmp ok_gt (me_var 5) me_int) (ms_cons (ms_set (i :=
      6) sc__ends.nd rfl (Or.inl rfl) (me_ixA hr (me_var 1) (me_op ok_add (me_op ok_add (me_sl (me_var 2) mo_none (mo_some (me_var 4))) (me_tup (ma_cons me_int ma_nil))) (me_sl
      (me_var 2) (mo_some (me_op ok_add (me_var 4) me_int)) mo_none)))) (ms_one (ms_subA hr (me_meth T.gG_Prefixes T.cl_Prefixes T.m_Prefixes_end (ok_Prefixes_end T) hgd (takes_of
      rfl rfl rfl rfl) (hr.mono (by decide)) T.kb_2 (fun us ws h1 h2 => match us, ws, h1, h2 with | [_, _, _], [], _, _ => rfl) (me_ix (me_var 0) (me_var 4)) (ma_cons (me_var 5)
      (ma_cons (me_var 6) ma_nil)) mk_nil) (me_var 3) (me_var 4)))) ms_nil))) (ms_one (ms_ret (me_var 3))))))
theorem ok_settle (T : TX K mg w G) : FnG P w K mg base 6 T.a_settle T.d_settle ["programs", "prefixes", "start"] (spM K G 3 m_settle) :=
  defM (body := b_settle) T.F_settle sc_settle 8 3 rfl rfl (fun cdv A outer s H E hr hgd => (ms_cons (ms_set (i := 3) sc_settle.nd rfl (Or.inl rfl) me_dnew) (ms_cons (ms_for (passes_of rfl) rfl (mi_seq (me_call (ok_positions_of T) hgd (takes_of rfl rfl rfl rfl) (hr.mono
      (by decide)) rfl T.g_positions_of T.F_positions_of.kp T.b_positions_of rfl (aCons_len aNil_len) (ma_cons (me_var 0) ma_nil))) (mg_nm 4 sc_settle.nd rfl (Or.inl rfl)) (ms_cons
      (ms_set (i := 5) sc_settle.nd rfl (Or.inl rfl) (me_call (ok__ends T) hgd (takes_of rfl rfl rfl rfl) (hr.mono (by decide)) rfl T.g__ends T.F__ends.kp T.b__ends rfl (aCons_len
      (aCons_len (aCons_len aNil_len))) (ma_cons (me_var 1) (ma_cons (me_var 3) (ma_cons (me_var 4) ma_nil))))) (ms_cons (ms_set (i := 6) sc_settle.nd rfl (Or.inl rfl) (me_callTy
      (ok_listA rfl) rfl T.z_list bt_list (ma_cons (me_var 5) ma_nil))) (ms_cons (ms_for (passes_of rfl) rfl (mi_seq (me_sl (me_var 6) (mo_some me_int) mo_none)) (mg_nm 7
      sc_settle.nd rfl (Or.inl rfl)) (ms_one (ms_if (mt_cmp (ok_ne hr.units) (me_ixA hr (me_var 5) (me_var 7)) (me_ixA hr (me_var 5) (me_ix (me_var 6) me_int))) (ms_one (ms_ret
      (me_tup (ma_cons (me_var 3) (ma_cons (me_tup (ma_cons (me_var 4) (ma_cons (me_ix (me_var 6) me_int) (ma_cons (me_var 7) ma_nil)))) ma_nil))))) ms_nil))) (ms_one (ms_subA hr
      (me_if (mt_cmp ok_gt (me_callB ok_len rfl T.z_len bt_len (ma_cons (me_var 6) ma_nil)) me_int) (me_ixA hr (me_var 5) (me_ix (me_var 6) me_int)) (me_var 2)) (me_var 3) (me_var
      4))))))) (ms_one (ms_ret (me_tup (ma_cons (me_var 3) (ma_cons me_non ma_nil))))))))
theorem ok_order_with_last (T : TX K mg w G) : FnG P w K mg base 1 T.a_order_with_last T.d_order_with_last ["many", "last"] (spM K G 2 m_order_with_last) :=
  defM (body := b_order_with_last) T.F_order_with_last sc_order_with_last 3 2 rfl rfl (fun cdv A outer s H E hr hgd => (ms_one (ms_ret (me_callTy ok_tuple rfl T.z_tuple bt_tuple (ma_cons (me_op ok_add (me_lc (own := [("k", 2)]) rfl sc_order_with_last.nd (mi_rng1 rfl T.z_range (ma_cons (me_var 0)
      ma_nil)) (blkOk_by (own := [("k", 2)]) (N := nm_order_with_last) (sc := defScope st_order_with_last) (by decide +kernel)) (by decide) (fun _ _ _ _ _ => (mg_nm 2
      sc_order_with_last.nd rfl (Or.inl rfl))) (fun _ _ _ _ _ => (mts_one (mt_cmp (ok_ne hr.units) (me_var 2) (me_var 1)))) (fun _ _ _ _ _ => (me_var 2))) (me_lst (ma_cons (me_var
      1) ma_nil))) ma_nil)))))
theorem ok__entries (T : TX K mg w G) : FnG P w K mg base 1 T.a__entries T.d__entries ["counts"] (spM K G 1 m__entries) :=
  defM (body := b__entries) T.F__entries sc__entries 4 1 rfl rfl (fun cdv A outer s H E hr hgd => (ms_one (ms_ret (me_lc2 (own := [("k", 1), ("many", 2), ("_", 3)]) rfl sc__entries.nd (mi_enA rfl T.z_enumerate (ma_cons (me_var 0) ma_nil)) (blkOk_by (own := [("k", 1), ("many",
      2), ("_", 3)]) (N := nm__entries) (sc := defScope st__entries) (by decide +kernel)) (vs1 := [3]) (by decide) (by decide) (by decide) (fun _ _ _ _ _ => (mg_tp rfl (mgs_cons
      (mg_nm 1 sc__entries.nd rfl (Or.inl rfl)) (mgs_cons (mg_nm 2 sc__entries.nd rfl (Or.inl rfl)) mgs_nil)) rfl)) (fun _ _ _ _ _ => mts_nil) (fun _ _ _ _ _ => (mi_rng1 rfl
      T.z_range (ma_cons (me_var 2) ma_nil))) (fun _ _ _ _ _ => (mg_nm 3 sc__entries.nd rfl (Or.inl rfl))) (fun _ _ _ _ _ => mts_nil) (fun _ _ _ _ _ => (me_var 1))))))
theorem ok_part_from (T : TX K mg w G) : FnG P w K mg base 7 T.a_part_from T.d_part_from ["programs", "prefixes", "start"] (spM K G 3 m_part_from) :=
  defM (body := b_part_from) T.F_part_from sc_part_from 17 3 rfl rfl (fun cdv A outer s H E hr hgd => (ms_cons (ms_set (i := 3) sc_part_from.nd rfl (Or.inl rfl) (me_ix (me_call (ok_settle T) hgd (takes_of rfl rfl rfl rfl) (hr.mono (by decide)) rfl T.g_settle T.F_settle.kp
      T.b_settle rfl (aCons_len (aCons_len (aCons_len aNil_len))) (ma_cons (me_var 0) (ma_cons (me_var 1) (ma_cons (me_var 2) ma_nil)))) me_int)) (ms_cons (ms_if (mt_cmp ok_is
      (me_var 3) me_non) (ms_one (ms_ret me_non)) ms_nil) (ms_cons (ms_asg (me_var 3) (mg_tp rfl (mgs_cons (mg_nm 4 sc_part_from.nd rfl (Or.inl rfl)) (mgs_cons (mg_nm 5
      sc_part_from.nd rfl (Or.inl rfl)) (mgs_cons (mg_nm 6 sc_part_from.nd rfl (Or.inl rfl)) mgs_nil))) rfl)) (ms_cons (ms_setLc (own := [("k", 10)]) (i := 7) rfl sc_part_from.nd
      rfl rfl (sw_true rfl rfl rfl (by decide +kernel)) (mi_seq (me_tup (ma_cons (me_var 5) (ma_cons (me_var 6) ma_nil)))) (blkOk_by (own := [("k", 10)]) (N := nm_part_from) (sc :=
      defScope st_part_from) (by decide +kernel)) (by decide) (fun _ _ _ _ _ => (mg_nm 10 sc_part_from.nd rfl (Or.inl rfl))) (fun _ _ _ _ _ => mts_nil) (fun _ _ _ _ _ => (me_call
      (ok_order_with_last T) hgd takes0 (hr.mono (by decide)) rfl T.g_order_with_last T.F_order_with_last.kp T.b_order_with_last rfl (aCons_len (aCons_len aNil_len)) (ma_cons
      (me_callB ok_len rfl T.z_len bt_len (ma_cons (me_var 0) ma_nil)) (ma_cons (me_var 10) ma_nil))))) (ms_cons (ms_setLc (own := [("program", 13), ("place", 14)]) (i := 8) rfl
      sc_part_from.nd rfl rfl (sw_true rfl rfl rfl (by decide +kernel)) (mi_zpA rfl T.z_zip (ma_cons (me_var 0) (ma_cons (me_var 4) ma_nil))) (blkOk_by (own := [("program", 13),
      ("place", 14)]) (N := nm_part_from) (sc := defScope st_part_from) (by decide +kernel)) (by decide) (fun _ _ _ _ _ => (mg_tp rfl (mgs_cons (mg_nm 13 sc_part_from.nd rfl
      (Or.inl rfl)) (mgs_cons (mg_nm 14 sc_part_from.nd rfl (Or.inl rfl)) mgs_nil)) rfl)) (fun _ _ _ _ _ => mts_nil) (fun _ _ _ _ _ => (me_idxN (me_fldN (ClF.one T.gG_Program
      T.cl_Program T.na_Program_places) (me_var 13)) (ma_cons (me_var 14) ma_nil)))) (ms_cons (ms_setLc (own := [("many", 15), ("behind", 16)]) (i := 9) rfl sc_part_from.nd rfl rfl
      (sw_true rfl rfl rfl (by decide +kernel)) (mi_zpA rfl T.z_zip (ma_cons (me_call (ok_stretch_counts T) hgd (takes_of rfl rfl rfl rfl) (hr.mono (by decide)) rfl
      T.g_stretch_counts T.F_stretch_counts.kp T.b_stretch_counts rfl (aCons_len aNil_len) (ma_cons (me_var 0) ma_nil)) (ma_cons (me_var 8) ma_nil))) (blkOk_by (own := [("many",
      15), ("behind", 16)]) (N := nm_part_from) (sc := defScope st_part_from) (by decide +kernel)) (by decide) (fun _ _ _ _ _ => (mg_tp rfl (mgs_cons (mg_nm 15 sc_part_from.nd rfl
      (Or.inl rfl)) (mgs_cons (mg_nm 16 sc_part_from.nd rfl (Or.inl rfl)) mgs_nil)) rfl)) (fun _ _ _ _ _ => mts_nil) (fun _ _ _ _ _ => (me_op ok_sub (me_var 15) (me_var 16))))
      (ms_cons (ms_for (passes_of rfl) rfl (mi_seq (me_tup (ma_cons (me_var 5) (ma_cons (me_var 6) ma_nil)))) (mg_nm 10 sc_part_from.nd rfl (Or.inl rfl)) (ms_one (ms_augA hr
      ok_isub (me_var 8) (me_var 10) me_int))) (ms_cons (ms_par (i := 11) (j := 12) rfl sc_part_from.nd rfl rfl (by decide) rfl rfl (ma_cons (me_call (ok__entries T) hgd (takes_of
      rfl rfl rfl rfl) (hr.mono (by decide)) rfl T.g__entries T.F__entries.kp T.b__entries rfl (aCons_len aNil_len) (ma_cons (me_var 8) ma_nil)) (ma_cons (me_call (ok__entries T)
      hgd (takes_of rfl rfl rfl rfl) (hr.mono (by decide)) rfl T.g__entries T.F__entries.kp T.b__entries rfl (aCons_len aNil_len) (ma_cons (me_var 9) ma_nil)) ma_nil))) (ms_one
      (ms_ret (me_tup (ma_cons (me_var 4) (ma_cons (me_ix (me_var 7) me_int) (ma_cons (me_ix (me_var 7) me_int) (ma_cons (me_op ok_add (me_op ok_add (me_var 11) (me_lst (ma_cons
      (me_var 6) (ma_cons (me_var 5) ma_nil)))) (me_var 12)) (ma_cons (me_op ok_add (me_op ok_add (me_var 11) (me_lst (ma_cons (me_var 5) (ma_cons (me_var 6) ma_nil)))) (me_var
      12)) ma_nil)))))))))))))))))
theorem ok_rounds_part (T : TX K mg w G) : FnG P w K mg base 8 T.a_rounds_part T.d_rounds_part ["programs", "start", "rounds"] (spM K G 3 m_rounds_part) :=
  defM (body := b_rounds_part) T.F_rounds_part sc_rounds_part 11 3 rfl rfl (fun cdv A outer s H E hr hgd => (ms_cons (ms_expr (me_callK (ok_check_choice T) hgd (takes_of rfl rfl rfl rfl) (hr.mono (by decide)) rfl T.g_check_choice T.F_check_choice.kp T.kb_3
      (fun us ws h1 h2 => match us, ws, h1, h2 with | [_, _, _], [], _, _ => rfl) (ma_cons (me_var 0) (ma_cons (me_var 1) (ma_cons (me_globI rfl T.g__MOST_POSITIONS ⟨_, rfl⟩)
      ma_nil))) mk_nil)) (ms_cons (ms_set (i := 3) sc_rounds_part.nd rfl (Or.inl rfl) (me_call (ok_prefixes_of T) hgd (takes_of rfl rfl rfl rfl) (hr.mono (by decide)) rfl
      T.g_prefixes_of T.F_prefixes_of.kp T.b_prefixes_of rfl (aCons_len aNil_len) (ma_cons (me_var 0) ma_nil))) (ms_cons (ms_set (i := 4) sc_rounds_part.nd rfl (Or.inl rfl)
      (me_call (ok__whole_ways T) hgd (takes_of rfl rfl rfl rfl) (hr.mono (by decide)) rfl T.g__whole_ways T.F__whole_ways.kp T.b__whole_ways rfl (aCons_len (aCons_len (aCons_len
      aNil_len))) (ma_cons (me_var 3) (ma_cons (me_var 1) (ma_cons (me_var 2) ma_nil))))) (ms_cons (ms_set (i := 5) sc_rounds_part.nd rfl (Or.inr rfl) (me_call (ok_stretch_counts
      T) hgd (takes_of rfl rfl rfl rfl) (hr.mono (by decide)) rfl T.g_stretch_counts T.F_stretch_counts.kp T.b_stretch_counts rfl (aCons_len aNil_len) (ma_cons (me_var 0) ma_nil)))
      (ms_cons (ms_lock (lkV 4) (ms_for (passes_of rfl) rfl (mi_any (me_var 4)) (mg_nm 6 sc_rounds_part.nd rfl (Or.inl rfl)) (ms_cons (ms_set (i := 7) sc_rounds_part.nd rfl (Or.inl
      rfl) (me_call (ok_part_from T) hgd (takes_of rfl rfl rfl rfl) (hr.mono (by decide)) rfl T.g_part_from T.F_part_from.kp T.b_part_from rfl (aCons_len (aCons_len (aCons_len
      aNil_len))) (ma_cons (me_var 0) (ma_cons (me_var 3) (ma_cons (me_var 6) ma_nil))))) (ms_one (ms_if (mt_cmp ok_isNot (me_var 7) me_non) (ms_cons (ms_setLc2 (own := [("k", 9),
      ("_", 10)]) (i := 8) rfl sc_rounds_part.nd rfl rfl (sw_true rfl rfl rfl (by decide +kernel)) (mi_seq (me_ixA hr (me_var 4) (me_var 6))) (blkOk_by (own := [("k", 9), ("_",
      10)]) (N := nm_rounds_part) (sc := defScope st_rounds_part) (by decide +kernel)) (vs1 := [10]) (by decide) (by decide) (by decide) (fun _ _ _ _ _ => (mg_nm 9
      sc_rounds_part.nd rfl (Or.inl rfl))) (fun _ _ _ _ _ => mts_nil) (fun _ _ _ _ _ => (mi_rng1 rfl T.z_range (ma_cons (me_ix (me_var 5) (me_var 9)) ma_nil))) (fun _ _ _ _ _ =>
      (mg_nm 10 sc_rounds_part.nd rfl (Or.inl rfl))) (fun _ _ _ _ _ => mts_nil) (fun _ _ _ _ _ => (me_var 9))) (ms_one (ms_ret (me_tup (ma_cons (me_op ok_add (me_var 8) (me_ix
      (me_var 7) me_int)) (ma_cons (me_op ok_add (me_var 8) (me_ix (me_var 7) me_int)) ma_nil)))))) ms_nil))))) (ms_one (ms_ret me_non))))))))
theorem ok_round_states (T : TX K mg w G) : FnG P w K mg base 6 T.a_round_states T.d_round_states ["programs", "start", "rounds"] (spM K G 3 m_round_states) :=
  defM (body := b_round_states) T.F_round_states sc_round_states 3 3 rfl rfl (fun cdv A outer s H E hr hgd => (ms_cons (ms_expr (me_callK (ok_check_choice T) hgd (takes_of rfl rfl rfl rfl) (hr.mono (by decide)) rfl T.g_check_choice T.F_check_choice.kp T.kb_3
      (fun us ws h1 h2 => match us, ws, h1, h2 with | [_, _, _], [], _, _ => rfl) (ma_cons (me_var 0) (ma_cons (me_var 1) (ma_cons (me_globI rfl T.g__MOST_POSITIONS ⟨_, rfl⟩)
      ma_nil))) mk_nil)) (ms_one (ms_ret (me_callB (ok_sorted (hu70 hr)) rfl T.z_sorted bt_sorted (ma_cons (me_callTy (ok_listA rfl) rfl T.z_list bt_list (ma_cons (me_call
      (ok__whole_ways T) hgd (takes_of rfl rfl rfl rfl) (hr.mono (by decide)) rfl T.g__whole_ways T.F__whole_ways.kp T.b__whole_ways rfl (aCons_len (aCons_len (aCons_len
      aNil_len))) (ma_cons (me_call (ok_prefixes_of T) hgd (takes_of rfl rfl rfl rfl) (hr.mono (by decide)) rfl T.g_prefixes_of T.F_prefixes_of.kp T.b_prefixes_of rfl (aCons_len
      aNil_len) (ma_cons (me_var 0) ma_nil)) (ma_cons (me_var 1) (ma_cons (me_var 2) ma_nil)))) ma_nil)) ma_nil))))))
theorem ok_part (T : TX K mg w G) : FnG P w K mg base 8 T.a_part T.d_part ["programs", "start"] (spM K G 2 m_part) :=
  defM (body := b_part) T.F_part sc_part 2 2 rfl rfl (fun cdv A outer s H E hr hgd => (ms_cons (ms_expr (me_callK (ok_check_choice T) hgd (takes_of rfl rfl rfl rfl) (hr.mono (by decide)) rfl T.g_check_choice T.F_check_choice.kp T.kb_4
      (fun us ws h1 h2 => match us, ws, h1, h2 with | [_, _], [], _, _ => rfl) (ma_cons (me_var 0) (ma_cons (me_var 1) ma_nil)) mk_nil)) (ms_one (ms_ret (me_call (ok_part_from T)
      hgd (takes_of rfl rfl rfl rfl) (hr.mono (by decide)) rfl T.g_part_from T.F_part_from.kp T.b_part_from rfl (aCons_len (aCons_len (aCons_len aNil_len))) (ma_cons (me_var 0)
      (ma_cons (me_call (ok_prefixes_of T) hgd (takes_of rfl rfl rfl rfl) (hr.mono (by decide)) rfl T.g_prefixes_of T.F_prefixes_of.kp T.b_prefixes_of rfl (aCons_len aNil_len)
      (ma_cons (me_var 0) ma_nil)) (ma_cons (me_var 1) ma_nil))))))))
theorem ok__law_wrong_late (T : TX K mg w G) : FnG P w K mg base 9 T.a__law_wrong_late T.d__law_wrong_late [] (spM K G 0 m__law_wrong_late) :=
  defM (body := b__law_wrong_late) T.F__law_wrong_late sc__law_wrong_late 2 0 rfl rfl (fun cdv A outer s H E hr hgd => (ms_cons (ms_set (i := 0) sc__law_wrong_late.nd rfl (Or.inl rfl) (me_make T.gG_Program T.mk_Program (ok_Program___init__ T) hgd (takes_of rfl rfl rfl rfl) (hr.mono (by decide)) (by
      rfl) T.g_Program T.kb_5 (fun us ws h1 h2 => match us, ws, h1, h2 with | [_, _, _], [], _, _ => rfl) (ma_cons (me_tup (ma_cons me_int (ma_cons me_int ma_nil))) (ma_cons
      (me_tup (ma_cons (me_tup (ma_cons (me_tup (ma_cons me_str (ma_cons me_int (ma_cons me_int ma_nil)))) (ma_cons (me_tup ma_nil) ma_nil))) ma_nil)) ma_nil)) mk_nil)) (ms_cons
      (ms_set (i := 1) sc__law_wrong_late.nd rfl (Or.inl rfl) (me_make T.gG_Program T.mk_Program (ok_Program___init__ T) hgd (takes_of rfl rfl rfl rfl) (hr.mono (by decide)) (by
      rfl) T.g_Program T.kb_5 (fun us ws h1 h2 => match us, ws, h1, h2 with | [_, _, _], [], _, _ => rfl) (ma_cons (me_tup (ma_cons me_int (ma_cons me_int ma_nil))) (ma_cons
      (me_tup (ma_cons (me_tup (ma_cons (me_tup (ma_cons me_str (ma_cons me_int (ma_cons me_int ma_nil)))) (ma_cons (me_tup (ma_cons (me_tup (ma_cons me_int (ma_cons me_int
      ma_nil))) ma_nil)) ma_nil))) ma_nil)) ma_nil)) mk_nil)) (ms_cons (ms_if (PW.pt (mw_or (mt_cmp ok_isNot (me_call (ok_part T) hgd (takes_of rfl rfl rfl rfl) (hr.mono (by
      decide)) rfl T.g_part T.F_part.kp T.b_part rfl (aCons_len (aCons_len aNil_len)) (ma_cons (me_lst (ma_cons (me_var 0) (ma_cons (me_var 1) ma_nil))) (ma_cons (me_tup (ma_cons
      me_int (ma_cons me_int ma_nil))) ma_nil))) me_non) (mw_or1 (mt_cmp ok_isNot (me_call (ok_rounds_part T) hgd (takes_of rfl rfl rfl rfl) (hr.mono (by decide)) rfl
      T.g_rounds_part T.F_rounds_part.kp T.b_rounds_part rfl (aCons_len (aCons_len (aCons_len aNil_len))) (ma_cons (me_lst (ma_cons (me_var 0) (ma_cons (me_var 1) ma_nil)))
      (ma_cons (me_tup (ma_cons me_int (ma_cons me_int ma_nil))) (ma_cons (me_lst ma_nil) ma_nil)))) me_non)))) (ms_one (ms_ret me_bl)) ms_nil) (ms_cons (ms_if (PW.pt (mw_or
      (mt_cmp ok_isNot (me_call (ok_rounds_part T) hgd (takes_of rfl rfl rfl rfl) (hr.mono (by decide)) rfl T.g_rounds_part T.F_rounds_part.kp T.b_rounds_part rfl (aCons_len
      (aCons_len (aCons_len aNil_len))) (ma_cons (me_lst (ma_cons (me_var 0) (ma_cons (me_var 1) ma_nil))) (ma_cons (me_tup (ma_cons me_int (ma_cons me_int ma_nil))) (ma_cons
      (me_lst (ma_cons me_int ma_nil)) ma_nil)))) me_non) (mw_or1 (mt_cmp ok_is (me_call (ok_rounds_part T) hgd (takes_of rfl rfl rfl rfl) (hr.mono (by decide)) rfl T.g_rounds_part
      T.F_rounds_part.kp T.b_rounds_part rfl (aCons_len (aCons_len (aCons_len aNil_len))) (ma_cons (me_lst (ma_cons (me_var 0) (ma_cons (me_var 1) ma_nil))) (ma_cons (me_tup
      (ma_cons me_int (ma_cons me_int ma_nil))) (ma_cons (me_lst (ma_cons me_int ma_nil)) ma_nil)))) me_non)))) (ms_one (ms_ret me_bl)) ms_nil) (ms_cons (ms_if (mt_cmp (ok_ne
      hr.units) (me_call (ok_round_states T) hgd (takes_of rfl rfl rfl rfl) (hr.mono (by decide)) rfl T.g_round_states T.F_round_states.kp T.b_round_states rfl (aCons_len
      (aCons_len (aCons_len aNil_len))) (ma_cons (me_lst (ma_cons (me_var 0) (ma_cons (me_var 1) ma_nil))) (ma_cons (me_tup (ma_cons me_int (ma_cons me_int ma_nil))) (ma_cons
      (me_lst (ma_cons me_int (ma_cons me_int ma_nil))) ma_nil)))) (me_lst (ma_cons (me_tup (ma_cons me_int (ma_cons me_int ma_nil))) (ma_cons (me_tup (ma_cons me_int (ma_cons
      me_int ma_nil))) (ma_cons (me_tup (ma_cons me_int (ma_cons me_int ma_nil))) (ma_cons (me_tup (ma_cons me_int (ma_cons me_int ma_nil))) (ma_cons (me_tup (ma_cons me_int
      (ma_cons me_int ma_nil))) (ma_cons (me_tup (ma_cons me_int (ma_cons me_int ma_nil))) ma_nil)))))))) (ms_one (ms_ret me_bl)) ms_nil) (ms_one (ms_ret (me_and (me_cmp ok_isNot
      (me_call (ok_rounds_part T) hgd (takes_of rfl rfl rfl rfl) (hr.mono (by decide)) rfl T.g_rounds_part T.F_rounds_part.kp T.b_rounds_part rfl (aCons_len (aCons_len (aCons_len
      aNil_len))) (ma_cons (me_lst (ma_cons (me_var 0) (ma_cons (me_var 1) ma_nil))) (ma_cons (me_tup (ma_cons me_int (ma_cons me_int ma_nil))) (ma_cons (me_lst ma_nil) ma_nil))))
      me_non) (me_one (me_cmp ok_isNot (me_call (ok_part T) hgd (takes_of rfl rfl rfl rfl) (hr.mono (by decide)) rfl T.g_part T.F_part.kp T.b_part rfl (aCons_len (aCons_len
      aNil_len)) (ma_cons (me_lst (ma_cons (me_var 0) (ma_cons (me_var 1) ma_nil))) (ma_cons (me_tup (ma_cons me_int (ma_cons me_int ma_nil))) ma_nil))) me_non)))))))))))
theorem ok_law (T : TX K mg w G) : FnG P w K mg base 10 T.a_law T.d_law ["script"] (spM K G 1 m_law) :=
  defM (body := b_law) T.F_law sc_law 8 1 rfl rfl (fun cdv A outer s H E hr hgd => (ms_cons (ms_if (mt_not (mt_truth (me_call0 (ok__law_wrong_late T) hgd (takes_of rfl rfl rfl rfl) (hr.mono (by decide)) rfl T.g__law_wrong_late T.F__law_wrong_late.kp
      T.b__law_wrong_late))) (ms_one (ms_ret me_bl)) ms_nil) (ms_cons (ms_set (i := 1) sc_law.nd rfl (Or.inl rfl) (me_make T.gG_Program T.mk_Program (ok_Program___init__ T) hgd
      (takes_of rfl rfl rfl rfl) (hr.mono (by decide)) (by rfl) T.g_Program T.kb_6 (fun us ws h1 h2 => match us, ws, h1, h2 with | [_, _, _], [_], _, _ => rfl) (ma_cons (me_tup
      (ma_cons me_int (ma_cons me_int ma_nil))) (ma_cons (me_tup (ma_cons (me_tup (ma_cons (me_tup (ma_cons me_str (ma_cons me_int (ma_cons me_int ma_nil)))) (ma_cons (me_tup
      ma_nil) ma_nil))) (ma_cons (me_tup (ma_cons (me_tup (ma_cons me_str (ma_cons me_int (ma_cons me_int ma_nil)))) (ma_cons (me_tup ma_nil) ma_nil))) ma_nil))) ma_nil)) (mk_cons
      (me_tup (ma_cons me_int ma_nil)) mk_nil))) (ms_cons (ms_set (i := 2) sc_law.nd rfl (Or.inl rfl) (me_make T.gG_Program T.mk_Program (ok_Program___init__ T) hgd (takes_of rfl
      rfl rfl rfl) (hr.mono (by decide)) (by rfl) T.g_Program T.kb_6 (fun us ws h1 h2 => match us, ws, h1, h2 with | [_, _, _], [_], _, _ => rfl) (ma_cons (me_tup (ma_cons me_int
      (ma_cons me_int ma_nil))) (ma_cons (me_tup (ma_cons (me_tup (ma_cons (me_tup (ma_cons me_str (ma_cons me_int (ma_cons me_int ma_nil)))) (ma_cons (me_tup ma_nil) ma_nil)))
      (ma_cons (me_tup (ma_cons (me_tup (ma_cons me_str (ma_cons me_int (ma_cons me_int ma_nil)))) (ma_cons (me_tup ma_nil) ma_nil))) ma_nil))) ma_nil)) (mk_cons (me_tup (ma_cons
      me_int ma_nil)) mk_nil))) (ms_cons (ms_for (passes_of rfl) rfl (mi_seq (me_tup (ma_cons (me_lst ma_nil) (ma_cons (me_lst (ma_cons me_int ma_nil)) (ma_cons (me_lst (ma_cons
      me_int ma_nil)) (ma_cons (me_lst (ma_cons me_int (ma_cons me_int ma_nil))) ma_nil)))))) (mg_nm 3 sc_law.nd rfl (Or.inl rfl)) (ms_one (ms_if (mt_cmp ok_isNot (me_call
      (ok_rounds_part T) hgd (takes_of rfl rfl rfl rfl) (hr.mono (by decide)) rfl T.g_rounds_part T.F_rounds_part.kp T.b_rounds_part rfl (aCons_len (aCons_len (aCons_len
      aNil_len))) (ma_cons (me_lst (ma_cons (me_var 1) (ma_cons (me_var 2) (ma_cons (me_var 1) ma_nil)))) (ma_cons (me_tup (ma_cons me_int (ma_cons me_int ma_nil))) (ma_cons
      (me_var 3) ma_nil)))) me_non) (ms_one (ms_ret me_bl)) ms_nil))) (ms_cons (ms_if (mt_cmp (ok_ne hr.units) (me_call (ok_round_states T) hgd (takes_of rfl rfl rfl rfl) (hr.mono
      (by decide)) rfl T.g_round_states T.F_round_states.kp T.b_round_states rfl (aCons_len (aCons_len (aCons_len aNil_len))) (ma_cons (me_lst (ma_cons (me_var 1) ma_nil)) (ma_cons
      (me_tup (ma_cons me_int (ma_cons me_int ma_nil))) (ma_cons (me_lst (ma_cons me_int ma_nil)) ma_nil)))) (me_lst (ma_cons (me_tup (ma_cons me_int (ma_cons me_int ma_nil)))
      (ma_cons (me_tup (ma_cons me_int (ma_cons me_int ma_nil))) (ma_cons (me_tup (ma_cons me_int (ma_cons me_int ma_nil))) (ma_cons (me_tup (ma_cons me_int (ma_cons me_int
      ma_nil))) ma_nil)))))) (ms_one (ms_ret me_bl)) ms_nil) (ms_cons (ms_set (i := 4) sc_law.nd rfl (Or.inl rfl) (me_make T.gG_Program T.mk_Program (ok_Program___init__ T) hgd
      (takes_of rfl rfl rfl rfl) (hr.mono (by decide)) (by rfl) T.g_Program T.kb_6 (fun us ws h1 h2 => match us, ws, h1, h2 with | [_, _, _], [_], _, _ => rfl) (ma_cons (me_tup
      (ma_cons me_int (ma_cons me_int ma_nil))) (ma_cons (me_tup (ma_cons (me_tup (ma_cons (me_tup (ma_cons me_str (ma_cons me_int (ma_cons me_int ma_nil)))) (ma_cons (me_tup
      ma_nil) ma_nil))) (ma_cons (me_tup (ma_cons (me_tup (ma_cons me_str (ma_cons me_int (ma_cons me_int ma_nil)))) (ma_cons (me_tup ma_nil) ma_nil))) ma_nil))) ma_nil)) (mk_cons
      (me_tup (ma_cons me_int ma_nil)) mk_nil))) (ms_cons (ms_set (i := 5) sc_law.nd rfl (Or.inl rfl) (me_make T.gG_Program T.mk_Program (ok_Program___init__ T) hgd (takes_of rfl
      rfl rfl rfl) (hr.mono (by decide)) (by rfl) T.g_Program T.kb_5 (fun us ws h1 h2 => match us, ws, h1, h2 with | [_, _, _], [], _, _ => rfl) (ma_cons (me_tup (ma_cons me_int
      (ma_cons me_int ma_nil))) (ma_cons (me_tup (ma_cons (me_tup (ma_cons (me_tup (ma_cons me_str (ma_cons me_int (ma_cons me_int (ma_cons me_int ma_nil))))) (ma_cons (me_tup
      ma_nil) ma_nil))) ma_nil)) ma_nil)) mk_nil)) (ms_cons (ms_if (PW.pt (mw_or (mt_cmp (ok_ne hr.units) (me_call (ok_round_states T) hgd (takes_of rfl rfl rfl rfl) (hr.mono (by
      decide)) rfl T.g_round_states T.F_round_states.kp T.b_round_states rfl (aCons_len (aCons_len (aCons_len aNil_len))) (ma_cons (me_lst (ma_cons (me_var 4) ma_nil)) (ma_cons
      (me_tup (ma_cons me_int (ma_cons me_int ma_nil))) (ma_cons (me_lst (ma_cons me_int ma_nil)) ma_nil)))) (me_lst (ma_cons (me_tup (ma_cons me_int (ma_cons me_int ma_nil)))
      ma_nil))) (mw_or1 (mt_cmp ok_isNot (me_call (ok_rounds_part T) hgd (takes_of rfl rfl rfl rfl) (hr.mono (by decide)) rfl T.g_rounds_part T.F_rounds_part.kp T.b_rounds_part rfl
      (aCons_len (aCons_len (aCons_len aNil_len))) (ma_cons (me_lst (ma_cons (me_var 4) ma_nil)) (ma_cons (me_tup (ma_cons me_int (ma_cons me_int ma_nil))) (ma_cons (me_lst
      (ma_cons me_int ma_nil)) ma_nil)))) me_non)))) (ms_one (ms_ret me_bl)) ms_nil) (ms_cons (ms_set (i := 6) sc_law.nd rfl (Or.inl rfl) (me_call (ok_rounds_part T) hgd (takes_of
      rfl rfl rfl rfl) (hr.mono (by decide)) rfl T.g_rounds_part T.F_rounds_part.kp T.b_rounds_part rfl (aCons_len (aCons_len (aCons_len aNil_len))) (ma_cons (me_lst (ma_cons
      (me_var 4) (ma_cons (me_var 5) ma_nil))) (ma_cons (me_tup (ma_cons me_int (ma_cons me_int ma_nil))) (ma_cons (me_lst (ma_cons me_int ma_nil)) ma_nil))))) (ms_cons (ms_set (i
      := 7) sc_law.nd rfl (Or.inl rfl) (me_make T.gG_Program T.mk_Program (ok_Program___init__ T) hgd (takes_of rfl rfl rfl rfl) (hr.mono (by decide)) (by rfl) T.g_Program T.kb_5
      (fun us ws h1 h2 => match us, ws, h1, h2 with | [_, _, _], [], _, _ => rfl) (ma_cons (me_tup (ma_cons me_int (ma_cons me_int ma_nil))) (ma_cons (me_fld (ClF.one T.gG_Program
      T.cl_Program T.na_Program_rows) (me_var 4)) ma_nil)) mk_nil)) (ms_one (ms_ret (me_and (me_cmp ok_isNot (me_var 6) me_non) (me_one (me_cmp ok_is (me_call (ok_rounds_part T)
      hgd (takes_of rfl rfl rfl rfl) (hr.mono (by decide)) rfl T.g_rounds_part T.F_rounds_part.kp T.b_rounds_part rfl (aCons_len (aCons_len (aCons_len aNil_len))) (ma_cons (me_lst
      (ma_cons (me_var 7) (ma_cons (me_var 5) ma_nil))) (ma_cons (me_tup (ma_cons me_int (ma_cons me_int ma_nil))) (ma_cons (me_lst (ma_cons me_int (ma_cons me_int ma_nil)))
      ma_nil)))) me_non))))))))))))))))
end
def all_mk {K : PySem.W.Frag} {w : World} {h : Heap} {mg : Str → Option Value} {ca_BadShape ca_BadState ca_BadRow ca_BadPauses ca_Long ca_Losing ca_TooMany ca_Program ca_Prefixes ca_FORMS f0 f1 f2 f3 f4 f5 f6 f7 f8 f9 f10 f11 f12 f13 f14 f15 f16 f17 f18 f19 f20 f21 f22 f23 f24 f25 f26 f27 f28 f29 f30 f31 f32 f33 f34 f35 f36 f37 f38 fi_BadShape fi_BadRow fi_Long fi_BadPauses fi_TooMany fi_Losing fi_BadState : Addr} (X : K.In h) (GG : h.Ns mainGlobals mg)
    (cg_BadShape : PySem.W.nsIn K mainGlobals "BadShape" = some (some (.ref ca_BadShape)))
    (cg_BadState : PySem.W.nsIn K mainGlobals "BadState" = some (some (.ref ca_BadState)))
    (cg_BadRow : PySem.W.nsIn K mainGlobals "BadRow" = some (some (.ref ca_BadRow)))
    (cg_BadPauses : PySem.W.nsIn K mainGlobals "BadPauses" = some (some (.ref ca_BadPauses)))
    (cg_Long : PySem.W.nsIn K mainGlobals "Long" = some (some (.ref ca_Long)))
    (cg_Losing : PySem.W.nsIn K mainGlobals "Losing" = some (some (.ref ca_Losing)))
    (cg_TooMany : PySem.W.nsIn K mainGlobals "TooMany" = some (some (.ref ca_TooMany)))
    (cg_Program : PySem.W.nsIn K mainGlobals "Program" = some (some (.ref ca_Program)))
    (pg_Program : PySem.W.plainGet K ca_Program Str.empty = true)
    (hd_Program : PySem.W.hasDictIn K ca_Program = true)
    (po_Program : PySem.W.plainOver K ca_Program = true)
    (sa_Program : PySem.W.findIn K (.ref ca_Program) "__setattr__" = some (some (.builtin "object.__setattr__")))
    (cg_Prefixes : PySem.W.nsIn K mainGlobals "Prefixes" = some (some (.ref ca_Prefixes)))
    (pg_Prefixes : PySem.W.plainGet K ca_Prefixes Str.empty = true)
    (hd_Prefixes : PySem.W.hasDictIn K ca_Prefixes = true)
    (po_Prefixes : PySem.W.plainOver K ca_Prefixes = true)
    (sa_Prefixes : PySem.W.findIn K (.ref ca_Prefixes) "__setattr__" = some (some (.builtin "object.__setattr__")))
    {es_FORMS : Array DictEntry} {n_FORMS : Nat}
    (cg_FORMS : PySem.W.nsIn K mainGlobals "FORMS" = some (some (.ref ca_FORMS)))
    (kl_FORMS : K.lookup ca_FORMS = some ⟨.type "dict", none, .dict es_FORMS n_FORMS, #[]⟩)
    (kk_FORMS : PySem.W.KeysLit w.params es_FORMS.toList)
    (ke_FORMS : ETab es_FORMS.toList kd_FORMS)
    (kw_FORMS : (ca_FORMS == sysModules) = false)
    {oc0 kV0 dc0 pm0 cd0 ct0 : Value} {od0 an0 : Option Addr} {sl0 : Array (Option Value)}
    (a0 : PySem.W.nsIn K mainGlobals "_has_form" = some (some (.ref f0)))
    (l0 : K.lookup f0 = some ⟨oc0, od0, .func (PySem.W.fnOf "_has_form" "_has_form" (defArgs st__has_form) (defBody st__has_form) (defScope st__has_form) .none kV0 dc0 pm0 an0 cd0 ct0), sl0⟩)
    (c0 : PySem.W.codeIn K cd0 "_has_form" = true)
    (k0 : PySem.W.keepIn K (.ref f0) = true)
    {oc1 kV1 dc1 pm1 cd1 ct1 : Value} {od1 an1 : Option Addr} {sl1 : Array (Option Value)}
    (a1 : PySem.W.nsIn K mainGlobals "is_within" = some (some (.ref f1)))
    (l1 : K.lookup f1 = some ⟨oc1, od1, .func (PySem.W.fnOf "is_within" "is_within" (defArgs st_is_within) (defBody st_is_within) (defScope st_is_within) .none kV1 dc1 pm1 an1 cd1 ct1), sl1⟩)
    (c1 : PySem.W.codeIn K cd1 "is_within" = true)
    (k1 : PySem.W.keepIn K (.ref f1) = true)
    {oc2 kV2 dc2 pm2 cd2 ct2 : Value} {od2 an2 : Option Addr} {sl2 : Array (Option Value)}
    (a2 : PySem.W.nsIn K mainGlobals "_is_index" = some (some (.ref f2)))
    (l2 : K.lookup f2 = some ⟨oc2, od2, .func (PySem.W.fnOf "_is_index" "_is_index" (defArgs st__is_index) (defBody st__is_index) (defScope st__is_index) .none kV2 dc2 pm2 an2 cd2 ct2), sl2⟩)
    (c2 : PySem.W.codeIn K cd2 "_is_index" = true)
    (k2 : PySem.W.keepIn K (.ref f2) = true)
    {oc3 kV3 dc3 pm3 cd3 ct3 : Value} {od3 an3 : Option Addr} {sl3 : Array (Option Value)}
    (a3 : PySem.W.nsIn K mainGlobals "_is_action" = some (some (.ref f3)))
    (l3 : K.lookup f3 = some ⟨oc3, od3, .func (PySem.W.fnOf "_is_action" "_is_action" (defArgs st__is_action) (defBody st__is_action) (defScope st__is_action) .none kV3 dc3 pm3 an3 cd3 ct3), sl3⟩)
    (c3 : PySem.W.codeIn K cd3 "_is_action" = true)
    (k3 : PySem.W.keepIn K (.ref f3) = true)
    {oc4 kV4 dc4 pm4 cd4 ct4 : Value} {od4 an4 : Option Addr} {sl4 : Array (Option Value)}
    (a4 : PySem.W.nsIn K mainGlobals "_changed" = some (some (.ref f4)))
    (l4 : K.lookup f4 = some ⟨oc4, od4, .func (PySem.W.fnOf "_changed" "_changed" (defArgs st__changed) (defBody st__changed) (defScope st__changed) .none kV4 dc4 pm4 an4 cd4 ct4), sl4⟩)
    (c4 : PySem.W.codeIn K cd4 "_changed" = true)
    (k4 : PySem.W.keepIn K (.ref f4) = true)
    {oc5 kV5 dc5 pm5 cd5 ct5 : Value} {od5 an5 : Option Addr} {sl5 : Array (Option Value)}
    (a5 : PySem.W.nsIn K mainGlobals "_is_condition" = some (some (.ref f5)))
    (l5 : K.lookup f5 = some ⟨oc5, od5, .func (PySem.W.fnOf "_is_condition" "_is_condition" (defArgs st__is_condition) (defBody st__is_condition) (defScope st__is_condition) .none kV5 dc5 pm5 an5 cd5 ct5), sl5⟩)
    (c5 : PySem.W.codeIn K cd5 "_is_condition" = true)
    (k5 : PySem.W.keepIn K (.ref f5) = true)
    {oc6 kV6 dc6 pm6 cd6 ct6 : Value} {od6 an6 : Option Addr} {sl6 : Array (Option Value)}
    (a6 : PySem.W.nsIn K mainGlobals "_are_conditions" = some (some (.ref f6)))
    (l6 : K.lookup f6 = some ⟨oc6, od6, .func (PySem.W.fnOf "_are_conditions" "_are_conditions" (defArgs st__are_conditions) (defBody st__are_conditions) (defScope st__are_conditions) .none kV6 dc6 pm6 an6 cd6 ct6), sl6⟩)
    (c6 : PySem.W.codeIn K cd6 "_are_conditions" = true)
    (k6 : PySem.W.keepIn K (.ref f6) = true)
    {oc7 kV7 dc7 pm7 cd7 ct7 : Value} {od7 an7 : Option Addr} {sl7 : Array (Option Value)}
    (a7 : PySem.W.nsIn K mainGlobals "is_row" = some (some (.ref f7)))
    (l7 : K.lookup f7 = some ⟨oc7, od7, .func (PySem.W.fnOf "is_row" "is_row" (defArgs st_is_row) (defBody st_is_row) (defScope st_is_row) .none kV7 dc7 pm7 an7 cd7 ct7), sl7⟩)
    (c7 : PySem.W.codeIn K cd7 "is_row" = true)
    (k7 : PySem.W.keepIn K (.ref f7) = true)
    {oc8 kV8 dc8 pm8 cd8 ct8 : Value} {od8 an8 : Option Addr} {sl8 : Array (Option Value)}
    (a8 : PySem.W.nsIn K mainGlobals "_first_no_row" = some (some (.ref f8)))
    (l8 : K.lookup f8 = some ⟨oc8, od8, .func (PySem.W.fnOf "_first_no_row" "_first_no_row" (defArgs st__first_no_row) (defBody st__first_no_row) (defScope st__first_no_row) .none kV8 dc8 pm8 an8 cd8 ct8), sl8⟩)
    (c8 : PySem.W.codeIn K cd8 "_first_no_row" = true)
    (k8 : PySem.W.keepIn K (.ref f8) = true)
    {oc9 kV9 dc9 pm9 cd9 ct9 : Value} {od9 an9 : Option Addr} {sl9 : Array (Option Value)}
    (a9 : PySem.W.nsIn K mainGlobals "is_shape" = some (some (.ref f9)))
    (l9 : K.lookup f9 = some ⟨oc9, od9, .func (PySem.W.fnOf "is_shape" "is_shape" (defArgs st_is_shape) (defBody st_is_shape) (defScope st_is_shape) .none kV9 dc9 pm9 an9 cd9 ct9), sl9⟩)
    (c9 : PySem.W.codeIn K cd9 "is_shape" = true)
    (k9 : PySem.W.keepIn K (.ref f9) = true)
    {oc10 kV10 dc10 pm10 cd10 ct10 : Value} {od10 an10 : Option Addr} {sl10 : Array (Option Value)}
    (a10 : PySem.W.nsIn K mainGlobals "_are_pauses" = some (some (.ref f10)))
    (l10 : K.lookup f10 = some ⟨oc10, od10, .func (PySem.W.fnOf "_are_pauses" "_are_pauses" (defArgs st__are_pauses) (defBody st__are_pauses) (defScope st__are_pauses) .none kV10 dc10 pm10 an10 cd10 ct10), sl10⟩)
    (c10 : PySem.W.codeIn K cd10 "_are_pauses" = true)
    (k10 : PySem.W.keepIn K (.ref f10) = true)
    {oc11 dc11 pm11 cd11 ct11 : Value} {od11 an11 : Option Addr} {sl11 : Array (Option Value)} {kD11 : Addr}
    (a11 : PySem.W.findIn K (.ref ca_Program) "__init__" = some (some (.ref f11)))
    (i11 : PySem.W.isFn K (.ref f11) = true)
    (l11 : K.lookup f11 = some ⟨oc11, od11, .func (PySem.W.fnOf "__init__" "Program.__init__" (defArgs st_Program___init__) (defBody st_Program___init__) (defScope st_Program___init__) .none (.ref kD11) dc11 pm11 an11 cd11 ct11), sl11⟩)
    (c11 : PySem.W.codeIn K cd11 "Program.__init__" = true)
    (k11 : PySem.W.keepIn K (.ref f11) = true)
    {dT12 : Addr}
    {oc12 kV12 dc12 pm12 cd12 ct12 : Value} {od12 an12 : Option Addr} {sl12 : Array (Option Value)}
    (a12 : PySem.W.nsIn K mainGlobals "check_positions" = some (some (.ref f12)))
    (l12 : K.lookup f12 = some ⟨oc12, od12, .func (PySem.W.fnOf "check_positions" "check_positions" (defArgs st_check_positions) (defBody st_check_positions) (defScope st_check_positions) (.ref dT12) kV12 dc12 pm12 an12 cd12 ct12), sl12⟩)
    (c12 : PySem.W.codeIn K cd12 "check_positions" = true)
    (k12 : PySem.W.keepIn K (.ref f12) = true)
    {do12 : Option Addr} {dn12 : Nat} {ds12 : Array (Option Value)}
    {dk12_0 : Tok}
    (dh12 : K.lookup dT12 = some ⟨.type "tuple", do12, .seq #[.int (400) dk12_0] dn12, ds12⟩)
    {oc13 kV13 dc13 pm13 cd13 ct13 : Value} {od13 an13 : Option Addr} {sl13 : Array (Option Value)}
    (a13 : PySem.W.nsIn K mainGlobals "loses" = some (some (.ref f13)))
    (l13 : K.lookup f13 = some ⟨oc13, od13, .func (PySem.W.fnOf "loses" "loses" (defArgs st_loses) (defBody st_loses) (defScope st_loses) .none kV13 dc13 pm13 an13 cd13 ct13), sl13⟩)
    (c13 : PySem.W.codeIn K cd13 "loses" = true)
    (k13 : PySem.W.keepIn K (.ref f13) = true)
    {oc14 kV14 dc14 pm14 cd14 ct14 : Value} {od14 an14 : Option Addr} {sl14 : Array (Option Value)}
    (a14 : PySem.W.nsIn K mainGlobals "first_losing" = some (some (.ref f14)))
    (l14 : K.lookup f14 = some ⟨oc14, od14, .func (PySem.W.fnOf "first_losing" "first_losing" (defArgs st_first_losing) (defBody st_first_losing) (defScope st_first_losing) .none kV14 dc14 pm14 an14 cd14 ct14), sl14⟩)
    (c14 : PySem.W.codeIn K cd14 "first_losing" = true)
    (k14 : PySem.W.keepIn K (.ref f14) = true)
    {oc15 kV15 dc15 pm15 cd15 ct15 : Value} {od15 an15 : Option Addr} {sl15 : Array (Option Value)}
    (a15 : PySem.W.nsIn K mainGlobals "check_losing" = some (some (.ref f15)))
    (l15 : K.lookup f15 = some ⟨oc15, od15, .func (PySem.W.fnOf "check_losing" "check_losing" (defArgs st_check_losing) (defBody st_check_losing) (defScope st_check_losing) .none kV15 dc15 pm15 an15 cd15 ct15), sl15⟩)
    (c15 : PySem.W.codeIn K cd15 "check_losing" = true)
    (k15 : PySem.W.keepIn K (.ref f15) = true)
    {oc16 kV16 dc16 pm16 cd16 ct16 : Value} {od16 an16 : Option Addr} {sl16 : Array (Option Value)}
    (a16 : PySem.W.nsIn K mainGlobals "is_state" = some (some (.ref f16)))
    (l16 : K.lookup f16 = some ⟨oc16, od16, .func (PySem.W.fnOf "is_state" "is_state" (defArgs st_is_state) (defBody st_is_state) (defScope st_is_state) .none kV16 dc16 pm16 an16 cd16 ct16), sl16⟩)
    (c16 : PySem.W.codeIn K cd16 "is_state" = true)
    (k16 : PySem.W.keepIn K (.ref f16) = true)
    {oc17 kV17 dc17 pm17 cd17 ct17 : Value} {od17 an17 : Option Addr} {sl17 : Array (Option Value)}
    (a17 : PySem.W.nsIn K mainGlobals "check_start" = some (some (.ref f17)))
    (l17 : K.lookup f17 = some ⟨oc17, od17, .func (PySem.W.fnOf "check_start" "check_start" (defArgs st_check_start) (defBody st_check_start) (defScope st_check_start) .none kV17 dc17 pm17 an17 cd17 ct17), sl17⟩)
    (c17 : PySem.W.codeIn K cd17 "check_start" = true)
    (k17 : PySem.W.keepIn K (.ref f17) = true)
    {dT18 : Addr}
    {oc18 kV18 dc18 pm18 cd18 ct18 : Value} {od18 an18 : Option Addr} {sl18 : Array (Option Value)}
    (a18 : PySem.W.nsIn K mainGlobals "check_choice" = some (some (.ref f18)))
    (l18 : K.lookup f18 = some ⟨oc18, od18, .func (PySem.W.fnOf "check_choice" "check_choice" (defArgs st_check_choice) (defBody st_check_choice) (defScope st_check_choice) (.ref dT18) kV18 dc18 pm18 an18 cd18 ct18), sl18⟩)
    (c18 : PySem.W.codeIn K cd18 "check_choice" = true)
    (k18 : PySem.W.keepIn K (.ref f18) = true)
    {do18 : Option Addr} {dn18 : Nat} {ds18 : Array (Option Value)}
    {dk18_0 : Tok}
    (dh18 : K.lookup dT18 = some ⟨.type "tuple", do18, .seq #[.int (400) dk18_0] dn18, ds18⟩)
    {oc19 kV19 dc19 pm19 cd19 ct19 : Value} {od19 an19 : Option Addr} {sl19 : Array (Option Value)}
    (a19 : PySem.W.findIn K (.ref ca_Prefixes) "__init__" = some (some (.ref f19)))
    (i19 : PySem.W.isFn K (.ref f19) = true)
    (l19 : K.lookup f19 = some ⟨oc19, od19, .func (PySem.W.fnOf "__init__" "Prefixes.__init__" (defArgs st_Prefixes___init__) (defBody st_Prefixes___init__) (defScope st_Prefixes___init__) .none kV19 dc19 pm19 an19 cd19 ct19), sl19⟩)
    (c19 : PySem.W.codeIn K cd19 "Prefixes.__init__" = true)
    (k19 : PySem.W.keepIn K (.ref f19) = true)
    {oc20 kV20 dc20 pm20 cd20 ct20 : Value} {od20 an20 : Option Addr} {sl20 : Array (Option Value)}
    (a20 : PySem.W.nsIn K mainGlobals "prefixes_of" = some (some (.ref f20)))
    (l20 : K.lookup f20 = some ⟨oc20, od20, .func (PySem.W.fnOf "prefixes_of" "prefixes_of" (defArgs st_prefixes_of) (defBody st_prefixes_of) (defScope st_prefixes_of) .none kV20 dc20 pm20 an20 cd20 ct20), sl20⟩)
    (c20 : PySem.W.codeIn K cd20 "prefixes_of" = true)
    (k20 : PySem.W.keepIn K (.ref f20) = true)
    {oc21 kV21 dc21 pm21 cd21 ct21 : Value} {od21 an21 : Option Addr} {sl21 : Array (Option Value)}
    (a21 : PySem.W.nsIn K mainGlobals "_new_digit" = some (some (.ref f21)))
    (l21 : K.lookup f21 = some ⟨oc21, od21, .func (PySem.W.fnOf "_new_digit" "_new_digit" (defArgs st__new_digit) (defBody st__new_digit) (defScope st__new_digit) .none kV21 dc21 pm21 an21 cd21 ct21), sl21⟩)
    (c21 : PySem.W.codeIn K cd21 "_new_digit" = true)
    (k21 : PySem.W.keepIn K (.ref f21) = true)
    {oc22 kV22 dc22 pm22 cd22 ct22 : Value} {od22 an22 : Option Addr} {sl22 : Array (Option Value)}
    (a22 : PySem.W.nsIn K mainGlobals "done" = some (some (.ref f22)))
    (l22 : K.lookup f22 = some ⟨oc22, od22, .func (PySem.W.fnOf "done" "done" (defArgs st_done) (defBody st_done) (defScope st_done) .none kV22 dc22 pm22 an22 cd22 ct22), sl22⟩)
    (c22 : PySem.W.codeIn K cd22 "done" = true)
    (k22 : PySem.W.keepIn K (.ref f22) = true)
    {oc23 kV23 dc23 pm23 cd23 ct23 : Value} {od23 an23 : Option Addr} {sl23 : Array (Option Value)}
    (a23 : PySem.W.nsIn K mainGlobals "log" = some (some (.ref f23)))
    (l23 : K.lookup f23 = some ⟨oc23, od23, .func (PySem.W.fnOf "log" "log" (defArgs st_log) (defBody st_log) (defScope st_log) .none kV23 dc23 pm23 an23 cd23 ct23), sl23⟩)
    (c23 : PySem.W.codeIn K cd23 "log" = true)
    (k23 : PySem.W.keepIn K (.ref f23) = true)
    {oc24 kV24 dc24 pm24 cd24 ct24 : Value} {od24 an24 : Option Addr} {sl24 : Array (Option Value)}
    (a24 : PySem.W.findIn K (.ref ca_Prefixes) "end" = some (some (.ref f24)))
    (i24 : PySem.W.isFn K (.ref f24) = true)
    (l24 : K.lookup f24 = some ⟨oc24, od24, .func (PySem.W.fnOf "end" "Prefixes.end" (defArgs st_Prefixes_end) (defBody st_Prefixes_end) (defScope st_Prefixes_end) .none kV24 dc24 pm24 an24 cd24 ct24), sl24⟩)
    (c24 : PySem.W.codeIn K cd24 "Prefixes.end" = true)
    (k24 : PySem.W.keepIn K (.ref f24) = true)
    {oc25 kV25 dc25 pm25 cd25 ct25 : Value} {od25 an25 : Option Addr} {sl25 : Array (Option Value)}
    (a25 : PySem.W.findIn K (.ref ca_Program) "__len__" = some (some (.ref f25)))
    (i25 : PySem.W.isFn K (.ref f25) = true)
    (l25 : K.lookup f25 = some ⟨oc25, od25, .func (PySem.W.fnOf "__len__" "Program.__len__" (defArgs st_Program___len__) (defBody st_Program___len__) (defScope st_Program___len__) .none kV25 dc25 pm25 an25 cd25 ct25), sl25⟩)
    (c25 : PySem.W.codeIn K cd25 "Program.__len__" = true)
    (k25 : PySem.W.keepIn K (.ref f25) = true)
    {oc26 kV26 dc26 pm26 cd26 ct26 : Value} {od26 an26 : Option Addr} {sl26 : Array (Option Value)}
    (a26 : PySem.W.nsIn K mainGlobals "_whole_ways" = some (some (.ref f26)))
    (l26 : K.lookup f26 = some ⟨oc26, od26, .func (PySem.W.fnOf "_whole_ways" "_whole_ways" (defArgs st__whole_ways) (defBody st__whole_ways) (defScope st__whole_ways) .none kV26 dc26 pm26 an26 cd26 ct26), sl26⟩)
    (c26 : PySem.W.codeIn K cd26 "_whole_ways" = true)
    (k26 : PySem.W.keepIn K (.ref f26) = true)
    {oc27 kV27 dc27 pm27 cd27 ct27 : Value} {od27 an27 : Option Addr} {sl27 : Array (Option Value)}
    (a27 : PySem.W.nsIn K mainGlobals "stretch_counts" = some (some (.ref f27)))
    (l27 : K.lookup f27 = some ⟨oc27, od27, .func (PySem.W.fnOf "stretch_counts" "stretch_counts" (defArgs st_stretch_counts) (defBody st_stretch_counts) (defScope st_stretch_counts) .none kV27 dc27 pm27 an27 cd27 ct27), sl27⟩)
    (c27 : PySem.W.codeIn K cd27 "stretch_counts" = true)
    (k27 : PySem.W.keepIn K (.ref f27) = true)
    {oc28 kV28 dc28 pm28 cd28 ct28 : Value} {od28 an28 : Option Addr} {sl28 : Array (Option Value)}
    (a28 : PySem.W.nsIn K mainGlobals "positions_of" = some (some (.ref f28)))
    (l28 : K.lookup f28 = some ⟨oc28, od28, .func (PySem.W.fnOf "positions_of" "positions_of" (defArgs st_positions_of) (defBody st_positions_of) (defScope st_positions_of) .none kV28 dc28 pm28 an28 cd28 ct28), sl28⟩)
    (c28 : PySem.W.codeIn K cd28 "positions_of" = true)
    (k28 : PySem.W.keepIn K (.ref f28) = true)
    {oc29 kV29 dc29 pm29 cd29 ct29 : Value} {od29 an29 : Option Addr} {sl29 : Array (Option Value)}
    (a29 : PySem.W.nsIn K mainGlobals "_ends" = some (some (.ref f29)))
    (l29 : K.lookup f29 = some ⟨oc29, od29, .func (PySem.W.fnOf "_ends" "_ends" (defArgs st__ends) (defBody st__ends) (defScope st__ends) .none kV29 dc29 pm29 an29 cd29 ct29), sl29⟩)
    (c29 : PySem.W.codeIn K cd29 "_ends" = true)
    (k29 : PySem.W.keepIn K (.ref f29) = true)
    {oc30 kV30 dc30 pm30 cd30 ct30 : Value} {od30 an30 : Option Addr} {sl30 : Array (Option Value)}
    (a30 : PySem.W.nsIn K mainGlobals "settle" = some (some (.ref f30)))
    (l30 : K.lookup f30 = some ⟨oc30, od30, .func (PySem.W.fnOf "settle" "settle" (defArgs st_settle) (defBody st_settle) (defScope st_settle) .none kV30 dc30 pm30 an30 cd30 ct30), sl30⟩)
    (c30 : PySem.W.codeIn K cd30 "settle" = true)
    (k30 : PySem.W.keepIn K (.ref f30) = true)
    {oc31 kV31 dc31 pm31 cd31 ct31 : Value} {od31 an31 : Option Addr} {sl31 : Array (Option Value)}
    (a31 : PySem.W.nsIn K mainGlobals "order_with_last" = some (some (.ref f31)))
    (l31 : K.lookup f31 = some ⟨oc31, od31, .func (PySem.W.fnOf "order_with_last" "order_with_last" (defArgs st_order_with_last) (defBody st_order_with_last) (defScope st_order_with_last) .none kV31 dc31 pm31 an31 cd31 ct31), sl31⟩)
    (c31 : PySem.W.codeIn K cd31 "order_with_last" = true)
    (k31 : PySem.W.keepIn K (.ref f31) = true)
    {oc32 kV32 dc32 pm32 cd32 ct32 : Value} {od32 an32 : Option Addr} {sl32 : Array (Option Value)}
    (a32 : PySem.W.nsIn K mainGlobals "_entries" = some (some (.ref f32)))
    (l32 : K.lookup f32 = some ⟨oc32, od32, .func (PySem.W.fnOf "_entries" "_entries" (defArgs st__entries) (defBody st__entries) (defScope st__entries) .none kV32 dc32 pm32 an32 cd32 ct32), sl32⟩)
    (c32 : PySem.W.codeIn K cd32 "_entries" = true)
    (k32 : PySem.W.keepIn K (.ref f32) = true)
    {oc33 kV33 dc33 pm33 cd33 ct33 : Value} {od33 an33 : Option Addr} {sl33 : Array (Option Value)}
    (a33 : PySem.W.nsIn K mainGlobals "part_from" = some (some (.ref f33)))
    (l33 : K.lookup f33 = some ⟨oc33, od33, .func (PySem.W.fnOf "part_from" "part_from" (defArgs st_part_from) (defBody st_part_from) (defScope st_part_from) .none kV33 dc33 pm33 an33 cd33 ct33), sl33⟩)
    (c33 : PySem.W.codeIn K cd33 "part_from" = true)
    (k33 : PySem.W.keepIn K (.ref f33) = true)
    {oc34 kV34 dc34 pm34 cd34 ct34 : Value} {od34 an34 : Option Addr} {sl34 : Array (Option Value)}
    (a34 : PySem.W.nsIn K mainGlobals "rounds_part" = some (some (.ref f34)))
    (l34 : K.lookup f34 = some ⟨oc34, od34, .func (PySem.W.fnOf "rounds_part" "rounds_part" (defArgs st_rounds_part) (defBody st_rounds_part) (defScope st_rounds_part) .none kV34 dc34 pm34 an34 cd34 ct34), sl34⟩)
    (c34 : PySem.W.codeIn K cd34 "rounds_part" = true)
    (k34 : PySem.W.keepIn K (.ref f34) = true)
    {oc35 kV35 dc35 pm35 cd35 ct35 : Value} {od35 an35 : Option Addr} {sl35 : Array (Option Value)}
    (a35 : PySem.W.nsIn K mainGlobals "round_states" = some (some (.ref f35)))
    (l35 : K.lookup f35 = some ⟨oc35, od35, .func (PySem.W.fnOf "round_states" "round_states" (defArgs st_round_states) (defBody st_round_states) (defScope st_round_states) .none kV35 dc35 pm35 an35 cd35 ct35), sl35⟩)
    (c35 : PySem.W.codeIn K cd35 "round_states" = true)
    (k35 : PySem.W.keepIn K (.ref f35) = true)
    {oc36 kV36 dc36 pm36 cd36 ct36 : Value} {od36 an36 : Option Addr} {sl36 : Array (Option Value)}
    (a36 : PySem.W.nsIn K mainGlobals "part" = some (some (.ref f36)))
    (l36 : K.lookup f36 = some ⟨oc36, od36, .func (PySem.W.fnOf "part" "part" (defArgs st_part) (defBody st_part) (defScope st_part) .none kV36 dc36 pm36 an36 cd36 ct36), sl36⟩)
    (c36 : PySem.W.codeIn K cd36 "part" = true)
    (k36 : PySem.W.keepIn K (.ref f36) = true)
    {oc37 kV37 dc37 pm37 cd37 ct37 : Value} {od37 an37 : Option Addr} {sl37 : Array (Option Value)}
    (a37 : PySem.W.nsIn K mainGlobals "_law_wrong_late" = some (some (.ref f37)))
    (l37 : K.lookup f37 = some ⟨oc37, od37, .func (PySem.W.fnOf "_law_wrong_late" "_law_wrong_late" (defArgs st__law_wrong_late) (defBody st__law_wrong_late) (defScope st__law_wrong_late) .none kV37 dc37 pm37 an37 cd37 ct37), sl37⟩)
    (c37 : PySem.W.codeIn K cd37 "_law_wrong_late" = true)
    (k37 : PySem.W.keepIn K (.ref f37) = true)
    {oc38 kV38 dc38 pm38 cd38 ct38 : Value} {od38 an38 : Option Addr} {sl38 : Array (Option Value)}
    (a38 : PySem.W.nsIn K mainGlobals "law" = some (some (.ref f38)))
    (l38 : K.lookup f38 = some ⟨oc38, od38, .func (PySem.W.fnOf "law" "law" (defArgs st_law) (defBody st_law) (defScope st_law) .none kV38 dc38 pm38 an38 cd38 ct38), sl38⟩)
    (c38 : PySem.W.codeIn K cd38 "law" = true)
    (k38 : PySem.W.keepIn K (.ref f38) = true)
    (mi_Prefixes : PySem.W.makesIn K ca_Prefixes = true)
    (mp_Prefixes : PySem.W.keepIn K (.ref ca_Prefixes) = true)
    (mi_Program : PySem.W.makesIn K ca_Program = true)
    (mp_Program : PySem.W.keepIn K (.ref ca_Program) = true)
    (na_Program_shape : PySem.W.findIn K (.ref ca_Program) "shape" = some none)
    (na_Program_rows : PySem.W.findIn K (.ref ca_Program) "rows" = some none)
    (na_Program_pauses : PySem.W.findIn K (.ref ca_Program) "pauses" = some none)
    (na_Program_places : PySem.W.findIn K (.ref ca_Program) "places" = some none)
    (na_Prefixes_whole : PySem.W.findIn K (.ref ca_Prefixes) "whole" = some none)
    (na_Prefixes_logs : PySem.W.findIn K (.ref ca_Prefixes) "logs" = some none)
    {nm_BadShape qn_BadShape : Str} {N_BadShape : Addr} {bs_BadShape bm_BadShape su_BadShape : List Value} {sn_BadShape : List Str} {ab_BadShape : Bool} {co_BadShape : Option Bool} {dd_BadShape : Option Addr} {m0_BadShape m1_BadShape m2_BadShape m3_BadShape m5_BadShape : Option Value} {oc_BadShape kV_BadShape dc_BadShape pm_BadShape cd_BadShape ct_BadShape : Value} {od_BadShape an_BadShape : Option Addr} {sl_BadShape : Array (Option Value)}
    (xl_BadShape : K.lookup ca_BadShape = some (PySem.excClassObj nm_BadShape qn_BadShape ca_BadShape N_BadShape bs_BadShape bm_BadShape true sn_BadShape su_BadShape ab_BadShape co_BadShape dd_BadShape m0_BadShape m1_BadShape m2_BadShape m3_BadShape m5_BadShape "ValueError.__new__"))
    (xr_BadShape : PySem.HandSPX.refsVE bm_BadShape = true)
    (xs_BadShape : PySem.W.findIn K (.ref ca_BadShape) "__setattr__" = some (some (.builtin "object.__setattr__")))
    (xe_BadShape : PySem.W.subIn K (.ref ca_BadShape) (.type "BaseException") = some true)
    (xt_BadShape : PySem.W.typeIn K (.ref ca_BadShape) = some (.type "type"))
    (xk_BadShape : PySem.W.keepIn K (.ref ca_BadShape) = true)
    (xi_BadShape : PySem.W.findIn K (.ref ca_BadShape) "__init__" = some (some (.ref fi_BadShape)))
    (xf_BadShape : PySem.W.typeIn K (.ref fi_BadShape) = some (.type "function"))
    (xm_BadShape : K.lookup fi_BadShape = some ⟨oc_BadShape, od_BadShape, .func (PySem.W.fnOf "__init__" "BadShape.__init__" (defArgs st_BadShape_init) (defBody st_BadShape_init) (defScope st_BadShape_init) .none kV_BadShape dc_BadShape pm_BadShape an_BadShape cd_BadShape ct_BadShape), sl_BadShape⟩)
    (xc_BadShape : PySem.W.codeIn K cd_BadShape "BadShape.__init__" = true)
    (xp_BadShape : PySem.W.keepIn K (.ref fi_BadShape) = true)
    {nm_BadRow qn_BadRow : Str} {N_BadRow : Addr} {bs_BadRow bm_BadRow su_BadRow : List Value} {sn_BadRow : List Str} {ab_BadRow : Bool} {co_BadRow : Option Bool} {dd_BadRow : Option Addr} {m0_BadRow m1_BadRow m2_BadRow m3_BadRow m5_BadRow : Option Value} {oc_BadRow kV_BadRow dc_BadRow pm_BadRow cd_BadRow ct_BadRow : Value} {od_BadRow an_BadRow : Option Addr} {sl_BadRow : Array (Option Value)}
    (xl_BadRow : K.lookup ca_BadRow = some (PySem.excClassObj nm_BadRow qn_BadRow ca_BadRow N_BadRow bs_BadRow bm_BadRow true sn_BadRow su_BadRow ab_BadRow co_BadRow dd_BadRow m0_BadRow m1_BadRow m2_BadRow m3_BadRow m5_BadRow "ValueError.__new__"))
    (xr_BadRow : PySem.HandSPX.refsVE bm_BadRow = true)
    (xs_BadRow : PySem.W.findIn K (.ref ca_BadRow) "__setattr__" = some (some (.builtin "object.__setattr__")))
    (xe_BadRow : PySem.W.subIn K (.ref ca_BadRow) (.type "BaseException") = some true)
    (xt_BadRow : PySem.W.typeIn K (.ref ca_BadRow) = some (.type "type"))
    (xk_BadRow : PySem.W.keepIn K (.ref ca_BadRow) = true)
    (xi_BadRow : PySem.W.findIn K (.ref ca_BadRow) "__init__" = some (some (.ref fi_BadRow)))
    (xf_BadRow : PySem.W.typeIn K (.ref fi_BadRow) = some (.type "function"))
    (xm_BadRow : K.lookup fi_BadRow = some ⟨oc_BadRow, od_BadRow, .func (PySem.W.fnOf "__init__" "BadRow.__init__" (defArgs st_BadRow_init) (defBody st_BadRow_init) (defScope st_BadRow_init) .none kV_BadRow dc_BadRow pm_BadRow an_BadRow cd_BadRow ct_BadRow), sl_BadRow⟩)
    (xc_BadRow : PySem.W.codeIn K cd_BadRow "BadRow.__init__" = true)
    (xp_BadRow : PySem.W.keepIn K (.ref fi_BadRow) = true)
    {nm_Long qn_Long : Str} {N_Long : Addr} {bs_Long bm_Long su_Long : List Value} {sn_Long : List Str} {ab_Long : Bool} {co_Long : Option Bool} {dd_Long : Option Addr} {m0_Long m1_Long m2_Long m3_Long m5_Long : Option Value} {oc_Long kV_Long dc_Long pm_Long cd_Long ct_Long : Value} {od_Long an_Long : Option Addr} {sl_Long : Array (Option Value)}
    (xl_Long : K.lookup ca_Long = some (PySem.excClassObj nm_Long qn_Long ca_Long N_Long bs_Long bm_Long true sn_Long su_Long ab_Long co_Long dd_Long m0_Long m1_Long m2_Long m3_Long m5_Long "ValueError.__new__"))
    (xr_Long : PySem.HandSPX.refsVE bm_Long = true)
    (xs_Long : PySem.W.findIn K (.ref ca_Long) "__setattr__" = some (some (.builtin "object.__setattr__")))
    (xe_Long : PySem.W.subIn K (.ref ca_Long) (.type "BaseException") = some true)
    (xt_Long : PySem.W.typeIn K (.ref ca_Long) = some (.type "type"))
    (xk_Long : PySem.W.keepIn K (.ref ca_Long) = true)
    (xi_Long : PySem.W.findIn K (.ref ca_Long) "__init__" = some (some (.ref fi_Long)))
    (xf_Long : PySem.W.typeIn K (.ref fi_Long) = some (.type "function"))
    (xm_Long : K.lookup fi_Long = some ⟨oc_Long, od_Long, .func (PySem.W.fnOf "__init__" "Long.__init__" (defArgs st_Long_init) (defBody st_Long_init) (defScope st_Long_init) .none kV_Long dc_Long pm_Long an_Long cd_Long ct_Long), sl_Long⟩)
    (xc_Long : PySem.W.codeIn K cd_Long "Long.__init__" = true)
    (xp_Long : PySem.W.keepIn K (.ref fi_Long) = true)
    {nm_BadPauses qn_BadPauses : Str} {N_BadPauses : Addr} {bs_BadPauses bm_BadPauses su_BadPauses : List Value} {sn_BadPauses : List Str} {ab_BadPauses : Bool} {co_BadPauses : Option Bool} {dd_BadPauses : Option Addr} {m0_BadPauses m1_BadPauses m2_BadPauses m3_BadPauses m5_BadPauses : Option Value} {oc_BadPauses kV_BadPauses dc_BadPauses pm_BadPauses cd_BadPauses ct_BadPauses : Value} {od_BadPauses an_BadPauses : Option Addr} {sl_BadPauses : Array (Option Value)}
    (xl_BadPauses : K.lookup ca_BadPauses = some (PySem.excClassObj nm_BadPauses qn_BadPauses ca_BadPauses N_BadPauses bs_BadPauses bm_BadPauses true sn_BadPauses su_BadPauses ab_BadPauses co_BadPauses dd_BadPauses m0_BadPauses m1_BadPauses m2_BadPauses m3_BadPauses m5_BadPauses "ValueError.__new__"))
    (xr_BadPauses : PySem.HandSPX.refsVE bm_BadPauses = true)
    (xs_BadPauses : PySem.W.findIn K (.ref ca_BadPauses) "__setattr__" = some (some (.builtin "object.__setattr__")))
    (xe_BadPauses : PySem.W.subIn K (.ref ca_BadPauses) (.type "BaseException") = some true)
    (xt_BadPauses : PySem.W.typeIn K (.ref ca_BadPauses) = some (.type "type"))
    (xk_BadPauses : PySem.W.keepIn K (.ref ca_BadPauses) = true)
    (xi_BadPauses : PySem.W.findIn K (.ref ca_BadPauses) "__init__" = some (some (.ref fi_BadPauses)))
    (xf_BadPauses : PySem.W.typeIn K (.ref fi_BadPauses) = some (.type "function"))
    (xm_BadPauses : K.lookup fi_BadPauses = some ⟨oc_BadPauses, od_BadPauses, .func (PySem.W.fnOf "__init__" "BadPauses.__init__" (defArgs st_BadPauses_init) (defBody st_BadPauses_init) (defScope st_BadPauses_init) .none kV_BadPauses dc_BadPauses pm_BadPauses an_BadPauses cd_BadPauses ct_BadPauses), sl_BadPauses⟩)
    (xc_BadPauses : PySem.W.codeIn K cd_BadPauses "BadPauses.__init__" = true)
    (xp_BadPauses : PySem.W.keepIn K (.ref fi_BadPauses) = true)
    {nm_TooMany qn_TooMany : Str} {N_TooMany : Addr} {bs_TooMany bm_TooMany su_TooMany : List Value} {sn_TooMany : List Str} {ab_TooMany : Bool} {co_TooMany : Option Bool} {dd_TooMany : Option Addr} {m0_TooMany m1_TooMany m2_TooMany m3_TooMany m5_TooMany : Option Value} {oc_TooMany kV_TooMany dc_TooMany pm_TooMany cd_TooMany ct_TooMany : Value} {od_TooMany an_TooMany : Option Addr} {sl_TooMany : Array (Option Value)}
    (xl_TooMany : K.lookup ca_TooMany = some (PySem.excClassObj nm_TooMany qn_TooMany ca_TooMany N_TooMany bs_TooMany bm_TooMany true sn_TooMany su_TooMany ab_TooMany co_TooMany dd_TooMany m0_TooMany m1_TooMany m2_TooMany m3_TooMany m5_TooMany "ValueError.__new__"))
    (xr_TooMany : PySem.HandSPX.refsVE bm_TooMany = true)
    (xs_TooMany : PySem.W.findIn K (.ref ca_TooMany) "__setattr__" = some (some (.builtin "object.__setattr__")))
    (xe_TooMany : PySem.W.subIn K (.ref ca_TooMany) (.type "BaseException") = some true)
    (xt_TooMany : PySem.W.typeIn K (.ref ca_TooMany) = some (.type "type"))
    (xk_TooMany : PySem.W.keepIn K (.ref ca_TooMany) = true)
    (xi_TooMany : PySem.W.findIn K (.ref ca_TooMany) "__init__" = some (some (.ref fi_TooMany)))
    (xf_TooMany : PySem.W.typeIn K (.ref fi_TooMany) = some (.type "function"))
    (xm_TooMany : K.lookup fi_TooMany = some ⟨oc_TooMany, od_TooMany, .func (PySem.W.fnOf "__init__" "TooMany.__init__" (defArgs st_TooMany_init) (defBody st_TooMany_init) (defScope st_TooMany_init) .none kV_TooMany dc_TooMany pm_TooMany an_TooMany cd_TooMany ct_TooMany), sl_TooMany⟩)
    (xc_TooMany : PySem.W.codeIn K cd_TooMany "TooMany.__init__" = true)
    (xp_TooMany : PySem.W.keepIn K (.ref fi_TooMany) = true)
    {nm_Losing qn_Losing : Str} {N_Losing : Addr} {bs_Losing bm_Losing su_Losing : List Value} {sn_Losing : List Str} {ab_Losing : Bool} {co_Losing : Option Bool} {dd_Losing : Option Addr} {m0_Losing m1_Losing m2_Losing m3_Losing m5_Losing : Option Value} {oc_Losing kV_Losing dc_Losing pm_Losing cd_Losing ct_Losing : Value} {od_Losing an_Losing : Option Addr} {sl_Losing : Array (Option Value)}
    (xl_Losing : K.lookup ca_Losing = some (PySem.excClassObj nm_Losing qn_Losing ca_Losing N_Losing bs_Losing bm_Losing true sn_Losing su_Losing ab_Losing co_Losing dd_Losing m0_Losing m1_Losing m2_Losing m3_Losing m5_Losing "ValueError.__new__"))
    (xr_Losing : PySem.HandSPX.refsVE bm_Losing = true)
    (xs_Losing : PySem.W.findIn K (.ref ca_Losing) "__setattr__" = some (some (.builtin "object.__setattr__")))
    (xe_Losing : PySem.W.subIn K (.ref ca_Losing) (.type "BaseException") = some true)
    (xt_Losing : PySem.W.typeIn K (.ref ca_Losing) = some (.type "type"))
    (xk_Losing : PySem.W.keepIn K (.ref ca_Losing) = true)
    (xi_Losing : PySem.W.findIn K (.ref ca_Losing) "__init__" = some (some (.ref fi_Losing)))
    (xf_Losing : PySem.W.typeIn K (.ref fi_Losing) = some (.type "function"))
    (xm_Losing : K.lookup fi_Losing = some ⟨oc_Losing, od_Losing, .func (PySem.W.fnOf "__init__" "Losing.__init__" (defArgs st_Losing_init) (defBody st_Losing_init) (defScope st_Losing_init) .none kV_Losing dc_Losing pm_Losing an_Losing cd_Losing ct_Losing), sl_Losing⟩)
    (xc_Losing : PySem.W.codeIn K cd_Losing "Losing.__init__" = true)
    (xp_Losing : PySem.W.keepIn K (.ref fi_Losing) = true)
    {nm_BadState qn_BadState : Str} {N_BadState : Addr} {bs_BadState bm_BadState su_BadState : List Value} {sn_BadState : List Str} {ab_BadState : Bool} {co_BadState : Option Bool} {dd_BadState : Option Addr} {m0_BadState m1_BadState m2_BadState m3_BadState m5_BadState : Option Value} {oc_BadState kV_BadState dc_BadState pm_BadState cd_BadState ct_BadState : Value} {od_BadState an_BadState : Option Addr} {sl_BadState : Array (Option Value)}
    (xl_BadState : K.lookup ca_BadState = some (PySem.excClassObj nm_BadState qn_BadState ca_BadState N_BadState bs_BadState bm_BadState true sn_BadState su_BadState ab_BadState co_BadState dd_BadState m0_BadState m1_BadState m2_BadState m3_BadState m5_BadState "ValueError.__new__"))
    (xr_BadState : PySem.HandSPX.refsVE bm_BadState = true)
    (xs_BadState : PySem.W.findIn K (.ref ca_BadState) "__setattr__" = some (some (.builtin "object.__setattr__")))
    (xe_BadState : PySem.W.subIn K (.ref ca_BadState) (.type "BaseException") = some true)
    (xt_BadState : PySem.W.typeIn K (.ref ca_BadState) = some (.type "type"))
    (xk_BadState : PySem.W.keepIn K (.ref ca_BadState) = true)
    (xi_BadState : PySem.W.findIn K (.ref ca_BadState) "__init__" = some (some (.ref fi_BadState)))
    (xf_BadState : PySem.W.typeIn K (.ref fi_BadState) = some (.type "function"))
    (xm_BadState : K.lookup fi_BadState = some ⟨oc_BadState, od_BadState, .func (PySem.W.fnOf "__init__" "BadState.__init__" (defArgs st_BadState_init) (defBody st_BadState_init) (defScope st_BadState_init) .none kV_BadState dc_BadState pm_BadState an_BadState cd_BadState ct_BadState), sl_BadState⟩)
    (xc_BadState : PySem.W.codeIn K cd_BadState "BadState.__init__" = true)
    (xp_BadState : PySem.W.keepIn K (.ref fi_BadState) = true)
    (nf_BadRow_index : PySem.W.findIn K (.ref ca_BadRow) "index" = some none)
    (nf_Losing_index : PySem.W.findIn K (.ref ca_Losing) "index" = some none)
    {kt5 : Addr} {ko5 : Option Addr} {ki5 : Nat} {ks5 : Array (Option Value)}
    (kn5 : PySem.W.nsIn K kD11 "pauses" = some (some (.ref kt5)))
    (ku5 : K.lookup kt5 = some ⟨.type "tuple", ko5, .seq #[] ki5, ks5⟩)
    (z_tuple : PySem.W.nsIn K mainGlobals "tuple" = some none)
    (z_isinstance : PySem.W.nsIn K mainGlobals "isinstance" = some none)
    (z_len : PySem.W.nsIn K mainGlobals "len" = some none)
    (z_str : PySem.W.nsIn K mainGlobals "str" = some none)
    (z_int : PySem.W.nsIn K mainGlobals "int" = some none)
    (z_bool : PySem.W.nsIn K mainGlobals "bool" = some none)
    (z_enumerate : PySem.W.nsIn K mainGlobals "enumerate" = some none)
    (z_zip : PySem.W.nsIn K mainGlobals "zip" = some none)
    (z_all : PySem.W.nsIn K mainGlobals "all" = some none)
    (z_list : PySem.W.nsIn K mainGlobals "list" = some none)
    (z_range : PySem.W.nsIn K mainGlobals "range" = some none)
    (z_sorted : PySem.W.nsIn K mainGlobals "sorted" = some none)
    {tk__MOST_BASES : Tok}
    (v__MOST_BASES : PySem.W.nsIn K mainGlobals "_MOST_BASES" = some (some (.int (6) tk__MOST_BASES)))
    {tk__GREATEST_BASE : Tok}
    (v__GREATEST_BASE : PySem.W.nsIn K mainGlobals "_GREATEST_BASE" = some (some (.int (64) tk__GREATEST_BASE)))
    {tk__MOST_STATES : Tok}
    (v__MOST_STATES : PySem.W.nsIn K mainGlobals "_MOST_STATES" = some (some (.int (64) tk__MOST_STATES)))
    {tk_MOST_PAUSES : Tok}
    (v_MOST_PAUSES : PySem.W.nsIn K mainGlobals "MOST_PAUSES" = some (some (.int (8) tk_MOST_PAUSES)))
    {tk_MOST_ROWS : Tok}
    (v_MOST_ROWS : PySem.W.nsIn K mainGlobals "MOST_ROWS" = some (some (.int (80) tk_MOST_ROWS)))
    {tk__MOST_POSITIONS : Tok}
    (v__MOST_POSITIONS : PySem.W.nsIn K mainGlobals "_MOST_POSITIONS" = some (some (.int (100) tk__MOST_POSITIONS)))
    (v_gcd : PySem.W.nsIn K mainGlobals "gcd" = some (some (.builtin "math.gcd")))
    : TX K mg w (fun n => [(0 : Addr), ca_BadShape, ca_BadState, ca_BadRow, ca_BadPauses, ca_Long, ca_Losing, ca_TooMany, ca_Program, ca_Prefixes, ca_FORMS][n]?) :=
  { c_BadShape := ca_BadShape, gG_BadShape := rfl, g_BadShape := PySem.W.mg_of X GG cg_BadShape,
     c_BadState := ca_BadState, gG_BadState := rfl, g_BadState := PySem.W.mg_of X GG cg_BadState,
     c_BadRow := ca_BadRow, gG_BadRow := rfl, g_BadRow := PySem.W.mg_of X GG cg_BadRow,
     c_BadPauses := ca_BadPauses, gG_BadPauses := rfl, g_BadPauses := PySem.W.mg_of X GG cg_BadPauses,
     c_Long := ca_Long, gG_Long := rfl, g_Long := PySem.W.mg_of X GG cg_Long,
     c_Losing := ca_Losing, gG_Losing := rfl, g_Losing := PySem.W.mg_of X GG cg_Losing,
     c_TooMany := ca_TooMany, gG_TooMany := rfl, g_TooMany := PySem.W.mg_of X GG cg_TooMany,
     c_Program := ca_Program, gG_Program := rfl, g_Program := PySem.W.mg_of X GG cg_Program,
     cl_Program := ⟨pg_Program, hd_Program, po_Program, sa_Program⟩,
     c_Prefixes := ca_Prefixes, gG_Prefixes := rfl, g_Prefixes := PySem.W.mg_of X GG cg_Prefixes,
     cl_Prefixes := ⟨pg_Prefixes, hd_Prefixes, po_Prefixes, sa_Prefixes⟩,
     c_FORMS := ca_FORMS, gG_FORMS := rfl, g_FORMS := PySem.W.mg_of X GG cg_FORMS, kt_FORMS := ⟨⟨es_FORMS, n_FORMS, kl_FORMS, kk_FORMS, ke_FORMS⟩, kw_FORMS⟩,
     a__has_form := f0, d__has_form := _, F__has_form := fun_mk (st := st__has_form) l0 c0 k0,
     g__has_form := PySem.W.mg_of X GG a0,
     b__has_form := (fun_mk (st := st__has_form) l0 c0 k0).binds (ps := ["thing"]) fun _ _ _ _ _ _ us hl => match us, hl with | [_], _ => rfl,
     a_is_within := f1, d_is_within := _, F_is_within := fun_mk (st := st_is_within) l1 c1 k1,
     g_is_within := PySem.W.mg_of X GG a1,
     b_is_within := (fun_mk (st := st_is_within) l1 c1 k1).binds (ps := ["thing", "low", "high"]) fun _ _ _ _ _ _ us hl => match us, hl with | [_, _, _], _ => rfl,
     a__is_index := f2, d__is_index := _, F__is_index := fun_mk (st := st__is_index) l2 c2 k2,
     g__is_index := PySem.W.mg_of X GG a2,
     b__is_index := (fun_mk (st := st__is_index) l2 c2 k2).binds (ps := ["shape", "thing"]) fun _ _ _ _ _ _ us hl => match us, hl with | [_, _], _ => rfl,
     a__is_action := f3, d__is_action := _, F__is_action := fun_mk (st := st__is_action) l3 c3 k3,
     g__is_action := PySem.W.mg_of X GG a3,
     b__is_action := (fun_mk (st := st__is_action) l3 c3 k3).binds (ps := ["shape", "thing"]) fun _ _ _ _ _ _ us hl => match us, hl with | [_, _], _ => rfl,
     a__changed := f4, d__changed := _, F__changed := fun_mk (st := st__changed) l4 c4 k4,
     g__changed := PySem.W.mg_of X GG a4,
     b__changed := (fun_mk (st := st__changed) l4 c4 k4).binds (ps := ["action"]) fun _ _ _ _ _ _ us hl => match us, hl with | [_], _ => rfl,
     a__is_condition := f5, d__is_condition := _, F__is_condition := fun_mk (st := st__is_condition) l5 c5 k5,
     g__is_condition := PySem.W.mg_of X GG a5,
     b__is_condition := (fun_mk (st := st__is_condition) l5 c5 k5).binds (ps := ["shape", "thing"]) fun _ _ _ _ _ _ us hl => match us, hl with | [_, _], _ => rfl,
     a__are_conditions := f6, d__are_conditions := _, F__are_conditions := fun_mk (st := st__are_conditions) l6 c6 k6,
     g__are_conditions := PySem.W.mg_of X GG a6,
     b__are_conditions := (fun_mk (st := st__are_conditions) l6 c6 k6).binds (ps := ["shape", "thing", "action"]) fun _ _ _ _ _ _ us hl => match us, hl with | [_, _, _], _ => rfl,
     a_is_row := f7, d_is_row := _, F_is_row := fun_mk (st := st_is_row) l7 c7 k7,
     g_is_row := PySem.W.mg_of X GG a7,
     b_is_row := (fun_mk (st := st_is_row) l7 c7 k7).binds (ps := ["shape", "thing"]) fun _ _ _ _ _ _ us hl => match us, hl with | [_, _], _ => rfl,
     a__first_no_row := f8, d__first_no_row := _, F__first_no_row := fun_mk (st := st__first_no_row) l8 c8 k8,
     g__first_no_row := PySem.W.mg_of X GG a8,
     b__first_no_row := (fun_mk (st := st__first_no_row) l8 c8 k8).binds (ps := ["shape", "rows"]) fun _ _ _ _ _ _ us hl => match us, hl with | [_, _], _ => rfl,
     a_is_shape := f9, d_is_shape := _, F_is_shape := fun_mk (st := st_is_shape) l9 c9 k9,
     g_is_shape := PySem.W.mg_of X GG a9,
     b_is_shape := (fun_mk (st := st_is_shape) l9 c9 k9).binds (ps := ["thing"]) fun _ _ _ _ _ _ us hl => match us, hl with | [_], _ => rfl,
     a__are_pauses := f10, d__are_pauses := _, F__are_pauses := fun_mk (st := st__are_pauses) l10 c10 k10,
     g__are_pauses := PySem.W.mg_of X GG a10,
     b__are_pauses := (fun_mk (st := st__are_pauses) l10 c10 k10).binds (ps := ["thing", "end"]) fun _ _ _ _ _ _ us hl => match us, hl with | [_, _], _ => rfl,
     a_Program___init__ := f11, d_Program___init__ := _, F_Program___init__ := fun_mk (st := st_Program___init__) l11 c11 k11,
     m_Program___init__ := ⟨a11, i11, k11⟩,
     a_check_positions := f12, d_check_positions := _, F_check_positions := funv_mk (st := st_check_positions) l12 c12 k12,
     g_check_positions := PySem.W.mg_of X GG a12,
     a_loses := f13, d_loses := _, F_loses := fun_mk (st := st_loses) l13 c13 k13,
     g_loses := PySem.W.mg_of X GG a13,
     b_loses := (fun_mk (st := st_loses) l13 c13 k13).binds (ps := ["shape", "row"]) fun _ _ _ _ _ _ us hl => match us, hl with | [_, _], _ => rfl,
     a_first_losing := f14, d_first_losing := _, F_first_losing := fun_mk (st := st_first_losing) l14 c14 k14,
     g_first_losing := PySem.W.mg_of X GG a14,
     b_first_losing := (fun_mk (st := st_first_losing) l14 c14 k14).binds (ps := ["program"]) fun _ _ _ _ _ _ us hl => match us, hl with | [_], _ => rfl,
     a_check_losing := f15, d_check_losing := _, F_check_losing := fun_mk (st := st_check_losing) l15 c15 k15,
     g_check_losing := PySem.W.mg_of X GG a15,
     b_check_losing := (fun_mk (st := st_check_losing) l15 c15 k15).binds (ps := ["programs"]) fun _ _ _ _ _ _ us hl => match us, hl with | [_], _ => rfl,
     a_is_state := f16, d_is_state := _, F_is_state := fun_mk (st := st_is_state) l16 c16 k16,
     g_is_state := PySem.W.mg_of X GG a16,
     b_is_state := (fun_mk (st := st_is_state) l16 c16 k16).binds (ps := ["shape", "thing"]) fun _ _ _ _ _ _ us hl => match us, hl with | [_, _], _ => rfl,
     a_check_start := f17, d_check_start := _, F_check_start := fun_mk (st := st_check_start) l17 c17 k17,
     g_check_start := PySem.W.mg_of X GG a17,
     b_check_start := (fun_mk (st := st_check_start) l17 c17 k17).binds (ps := ["programs", "start"]) fun _ _ _ _ _ _ us hl => match us, hl with | [_, _], _ => rfl,
     a_check_choice := f18, d_check_choice := _, F_check_choice := funv_mk (st := st_check_choice) l18 c18 k18,
     g_check_choice := PySem.W.mg_of X GG a18,
     a_Prefixes___init__ := f19, d_Prefixes___init__ := _, F_Prefixes___init__ := fun_mk (st := st_Prefixes___init__) l19 c19 k19,
     m_Prefixes___init__ := ⟨a19, i19, k19⟩,
     b_Prefixes___init__ := (fun_mk (st := st_Prefixes___init__) l19 c19 k19).binds (ps := ["self", "whole"]) fun _ _ _ _ _ _ us hl => match us, hl with | [_, _], _ => rfl,
     a_prefixes_of := f20, d_prefixes_of := _, F_prefixes_of := fun_mk (st := st_prefixes_of) l20 c20 k20,
     g_prefixes_of := PySem.W.mg_of X GG a20,
     b_prefixes_of := (fun_mk (st := st_prefixes_of) l20 c20 k20).binds (ps := ["programs"]) fun _ _ _ _ _ _ us hl => match us, hl with | [_], _ => rfl,
     a__new_digit := f21, d__new_digit := _, F__new_digit := fun_mk (st := st__new_digit) l21 c21 k21,
     g__new_digit := PySem.W.mg_of X GG a21,
     b__new_digit := (fun_mk (st := st__new_digit) l21 c21 k21).binds (ps := ["action", "state"]) fun _ _ _ _ _ _ us hl => match us, hl with | [_, _], _ => rfl,
     a_done := f22, d_done := _, F_done := fun_mk (st := st_done) l22 c22 k22,
     g_done := PySem.W.mg_of X GG a22,
     b_done := (fun_mk (st := st_done) l22 c22 k22).binds (ps := ["shape", "row", "state"]) fun _ _ _ _ _ _ us hl => match us, hl with | [_, _, _], _ => rfl,
     a_log := f23, d_log := _, F_log := fun_mk (st := st_log) l23 c23 k23,
     g_log := PySem.W.mg_of X GG a23,
     b_log := (fun_mk (st := st_log) l23 c23 k23).binds (ps := ["program", "state"]) fun _ _ _ _ _ _ us hl => match us, hl with | [_, _], _ => rfl,
     a_Prefixes_end := f24, d_Prefixes_end := _, F_Prefixes_end := fun_mk (st := st_Prefixes_end) l24 c24 k24,
     m_Prefixes_end := ⟨a24, i24, k24⟩,
     b_Prefixes_end := (fun_mk (st := st_Prefixes_end) l24 c24 k24).binds (ps := ["self", "many", "state"]) fun _ _ _ _ _ _ us hl => match us, hl with | [_, _, _], _ => rfl,
     a_Program___len__ := f25, d_Program___len__ := _, F_Program___len__ := fun_mk (st := st_Program___len__) l25 c25 k25,
     m_Program___len__ := ⟨a25, i25, k25⟩,
     b_Program___len__ := (fun_mk (st := st_Program___len__) l25 c25 k25).binds (ps := ["self"]) fun _ _ _ _ _ _ us hl => match us, hl with | [_], _ => rfl,
     a__whole_ways := f26, d__whole_ways := _, F__whole_ways := fun_mk (st := st__whole_ways) l26 c26 k26,
     g__whole_ways := PySem.W.mg_of X GG a26,
     b__whole_ways := (fun_mk (st := st__whole_ways) l26 c26 k26).binds (ps := ["prefixes", "start", "rounds"]) fun _ _ _ _ _ _ us hl => match us, hl with | [_, _, _], _ => rfl,
     a_stretch_counts := f27, d_stretch_counts := _, F_stretch_counts := fun_mk (st := st_stretch_counts) l27 c27 k27,
     g_stretch_counts := PySem.W.mg_of X GG a27,
     b_stretch_counts := (fun_mk (st := st_stretch_counts) l27 c27 k27).binds (ps := ["programs"]) fun _ _ _ _ _ _ us hl => match us, hl with | [_], _ => rfl,
     a_positions_of := f28, d_positions_of := _, F_positions_of := fun_mk (st := st_positions_of) l28 c28 k28,
     g_positions_of := PySem.W.mg_of X GG a28,
     b_positions_of := (fun_mk (st := st_positions_of) l28 c28 k28).binds (ps := ["programs"]) fun _ _ _ _ _ _ us hl => match us, hl with | [_], _ => rfl,
     a__ends := f29, d__ends := _, F__ends := fun_mk (st := st__ends) l29 c29 k29,
     g__ends := PySem.W.mg_of X GG a29,
     b__ends := (fun_mk (st := st__ends) l29 c29 k29).binds (ps := ["prefixes", "found", "places"]) fun _ _ _ _ _ _ us hl => match us, hl with | [_, _, _], _ => rfl,
     a_settle := f30, d_settle := _, F_settle := fun_mk (st := st_settle) l30 c30 k30,
     g_settle := PySem.W.mg_of X GG a30,
     b_settle := (fun_mk (st := st_settle) l30 c30 k30).binds (ps := ["programs", "prefixes", "start"]) fun _ _ _ _ _ _ us hl => match us, hl with | [_, _, _], _ => rfl,
     a_order_with_last := f31, d_order_with_last := _, F_order_with_last := fun_mk (st := st_order_with_last) l31 c31 k31,
     g_order_with_last := PySem.W.mg_of X GG a31,
     b_order_with_last := (fun_mk (st := st_order_with_last) l31 c31 k31).binds (ps := ["many", "last"]) fun _ _ _ _ _ _ us hl => match us, hl with | [_, _], _ => rfl,
     a__entries := f32, d__entries := _, F__entries := fun_mk (st := st__entries) l32 c32 k32,
     g__entries := PySem.W.mg_of X GG a32,
     b__entries := (fun_mk (st := st__entries) l32 c32 k32).binds (ps := ["counts"]) fun _ _ _ _ _ _ us hl => match us, hl with | [_], _ => rfl,
     a_part_from := f33, d_part_from := _, F_part_from := fun_mk (st := st_part_from) l33 c33 k33,
     g_part_from := PySem.W.mg_of X GG a33,
     b_part_from := (fun_mk (st := st_part_from) l33 c33 k33).binds (ps := ["programs", "prefixes", "start"]) fun _ _ _ _ _ _ us hl => match us, hl with | [_, _, _], _ => rfl,
     a_rounds_part := f34, d_rounds_part := _, F_rounds_part := fun_mk (st := st_rounds_part) l34 c34 k34,
     g_rounds_part := PySem.W.mg_of X GG a34,
     b_rounds_part := (fun_mk (st := st_rounds_part) l34 c34 k34).binds (ps := ["programs", "start", "rounds"]) fun _ _ _ _ _ _ us hl => match us, hl with | [_, _, _], _ => rfl,
     a_round_states := f35, d_round_states := _, F_round_states := fun_mk (st := st_round_states) l35 c35 k35,
     g_round_states := PySem.W.mg_of X GG a35,
     b_round_states := (fun_mk (st := st_round_states) l35 c35 k35).binds (ps := ["programs", "start", "rounds"]) fun _ _ _ _ _ _ us hl => match us, hl with | [_, _, _], _ => rfl,
     a_part := f36, d_part := _, F_part := fun_mk (st := st_part) l36 c36 k36,
     g_part := PySem.W.mg_of X GG a36,
     b_part := (fun_mk (st := st_part) l36 c36 k36).binds (ps := ["programs", "start"]) fun _ _ _ _ _ _ us hl => match us, hl with | [_, _], _ => rfl,
     a__law_wrong_late := f37, d__law_wrong_late := _, F__law_wrong_late := fun_mk (st := st__law_wrong_late) l37 c37 k37,
     g__law_wrong_late := PySem.W.mg_of X GG a37,
     b__law_wrong_late := (fun_mk (st := st__law_wrong_late) l37 c37 k37).binds (ps := []) fun _ _ _ _ _ _ us hl => match us, hl with | [], _ => rfl,
     a_law := f38, d_law := _, F_law := fun_mk (st := st_law) l38 c38 k38,
     g_law := PySem.W.mg_of X GG a38,
     b_law := (fun_mk (st := st_law) l38 c38 k38).binds (ps := ["script"]) fun _ _ _ _ _ _ us hl => match us, hl with | [_], _ => rfl,
     mk_Prefixes := ⟨mi_Prefixes, a19, i19, mp_Prefixes⟩,
     mk_Program := ⟨mi_Program, a11, i11, mp_Program⟩,
     na_Program_shape := na_Program_shape,
     na_Program_rows := na_Program_rows,
     na_Program_pauses := na_Program_pauses,
     na_Program_places := na_Program_places,
     na_Prefixes_whole := na_Prefixes_whole,
     na_Prefixes_logs := na_Prefixes_logs,
     ox_BadShape := ⟨⟨_, _, _, _, _, _, _, _, _, _, _, _, _, _, _, xl_BadShape, xr_BadShape⟩, xs_BadShape, xe_BadShape, xt_BadShape, xk_BadShape⟩, i_BadShape := fi_BadShape, e_BadShape := _, iC_BadShape := xi_BadShape, tI_BadShape := xf_BadShape, Fi_BadShape := fun_mk (st := st_BadShape_init) xm_BadShape xc_BadShape xp_BadShape, be_BadShape := (fun_mk (st := st_BadShape_init) xm_BadShape xc_BadShape xp_BadShape).binds (ps := ["self"]) fun _ _ _ _ _ _ us hl => match us, hl with | [_], _ => rfl,
     ox_BadRow := ⟨⟨_, _, _, _, _, _, _, _, _, _, _, _, _, _, _, xl_BadRow, xr_BadRow⟩, xs_BadRow, xe_BadRow, xt_BadRow, xk_BadRow⟩, i_BadRow := fi_BadRow, e_BadRow := _, iC_BadRow := xi_BadRow, tI_BadRow := xf_BadRow, Fi_BadRow := fun_mk (st := st_BadRow_init) xm_BadRow xc_BadRow xp_BadRow, be_BadRow := (fun_mk (st := st_BadRow_init) xm_BadRow xc_BadRow xp_BadRow).binds (ps := ["self", "index"]) fun _ _ _ _ _ _ us hl => match us, hl with | [_, _], _ => rfl,
     ox_Long := ⟨⟨_, _, _, _, _, _, _, _, _, _, _, _, _, _, _, xl_Long, xr_Long⟩, xs_Long, xe_Long, xt_Long, xk_Long⟩, i_Long := fi_Long, e_Long := _, iC_Long := xi_Long, tI_Long := xf_Long, Fi_Long := fun_mk (st := st_Long_init) xm_Long xc_Long xp_Long, be_Long := (fun_mk (st := st_Long_init) xm_Long xc_Long xp_Long).binds (ps := ["self"]) fun _ _ _ _ _ _ us hl => match us, hl with | [_], _ => rfl,
     ox_BadPauses := ⟨⟨_, _, _, _, _, _, _, _, _, _, _, _, _, _, _, xl_BadPauses, xr_BadPauses⟩, xs_BadPauses, xe_BadPauses, xt_BadPauses, xk_BadPauses⟩, i_BadPauses := fi_BadPauses, e_BadPauses := _, iC_BadPauses := xi_BadPauses, tI_BadPauses := xf_BadPauses, Fi_BadPauses := fun_mk (st := st_BadPauses_init) xm_BadPauses xc_BadPauses xp_BadPauses, be_BadPauses := (fun_mk (st := st_BadPauses_init) xm_BadPauses xc_BadPauses xp_BadPauses).binds (ps := ["self"]) fun _ _ _ _ _ _ us hl => match us, hl with | [_], _ => rfl,
     ox_TooMany := ⟨⟨_, _, _, _, _, _, _, _, _, _, _, _, _, _, _, xl_TooMany, xr_TooMany⟩, xs_TooMany, xe_TooMany, xt_TooMany, xk_TooMany⟩, i_TooMany := fi_TooMany, e_TooMany := _, iC_TooMany := xi_TooMany, tI_TooMany := xf_TooMany, Fi_TooMany := fun_mk (st := st_TooMany_init) xm_TooMany xc_TooMany xp_TooMany, be_TooMany := (fun_mk (st := st_TooMany_init) xm_TooMany xc_TooMany xp_TooMany).binds (ps := ["self"]) fun _ _ _ _ _ _ us hl => match us, hl with | [_], _ => rfl,
     ox_Losing := ⟨⟨_, _, _, _, _, _, _, _, _, _, _, _, _, _, _, xl_Losing, xr_Losing⟩, xs_Losing, xe_Losing, xt_Losing, xk_Losing⟩, i_Losing := fi_Losing, e_Losing := _, iC_Losing := xi_Losing, tI_Losing := xf_Losing, Fi_Losing := fun_mk (st := st_Losing_init) xm_Losing xc_Losing xp_Losing, be_Losing := (fun_mk (st := st_Losing_init) xm_Losing xc_Losing xp_Losing).binds (ps := ["self", "index"]) fun _ _ _ _ _ _ us hl => match us, hl with | [_, _], _ => rfl,
     ox_BadState := ⟨⟨_, _, _, _, _, _, _, _, _, _, _, _, _, _, _, xl_BadState, xr_BadState⟩, xs_BadState, xe_BadState, xt_BadState, xk_BadState⟩, i_BadState := fi_BadState, e_BadState := _, iC_BadState := xi_BadState, tI_BadState := xf_BadState, Fi_BadState := fun_mk (st := st_BadState_init) xm_BadState xc_BadState xp_BadState, be_BadState := (fun_mk (st := st_BadState_init) xm_BadState xc_BadState xp_BadState).binds (ps := ["self"]) fun _ _ _ _ _ _ us hl => match us, hl with | [_], _ => rfl,
     nf_BadRow_index := nf_BadRow_index,
     nf_Losing_index := nf_Losing_index,
     kb_0 := KB.pd 2 [] [.int (400) dk12_0] [.int (400)] [.int (400)] [.p 0, .p 1] rfl dh12 (.cons ⟨_, rfl⟩ .nil) (fun _ _ => .cons (.int _) .nil) fun us ws h1 h2 => match us, ws, h1, h2 with | [_, _], [], _, _ => ⟨_, rfl, rfl⟩,
     kb_1 := KB.kwo (Dx := 0) 2 [] [] [] [.p 0, .p 1] kwo_nil (fun _ _ => .nil) fun us mv ws h1 h2 h3 => match us, mv, ws, h1, h2, h3 with | [_, _], [], [], _, _, _ => rfl,
     kb_2 := KB.kwo (Dx := 0) 3 [] [] [] [.p 0, .p 1, .p 2] kwo_nil (fun _ _ => .nil) fun us mv ws h1 h2 h3 => match us, mv, ws, h1, h2, h3 with | [_, _, _], [], [], _, _, _ => rfl,
     kb_3 := KB.pd 3 [] [.int (400) dk18_0] [.int (400)] [.int (400)] [.p 0, .p 1, .p 2] rfl dh18 (.cons ⟨_, rfl⟩ .nil) (fun _ _ => .cons (.int _) .nil) fun us ws h1 h2 => match us, ws, h1, h2 with | [_, _, _], [], _, _ => ⟨_, rfl, rfl⟩,
     kb_4 := KB.pd 2 [] [.int (400) dk18_0] [.int (400)] [.int (400)] [.p 0, .p 1, .d 0] rfl dh18 (.cons ⟨_, rfl⟩ .nil) (fun _ _ => .cons (.int _) .nil) fun us ws h1 h2 => match us, ws, h1, h2 with | [_, _], [], _, _ => ⟨_, rfl, rfl⟩,
     kb_5 := KB.kwo (Dx := kD11) 3 [] [("pauses", .ref kt5)] [.tup []] [.p 0, .p 1, .p 2, .d 0] (kwo_one kn5 rfl) (rd_unit ku5) fun us mv ws h1 h2 h3 => match us, mv, ws, h1, h2, h3 with | [_, _, _], [_], [], _, _, _ => ⟨_, _, _, _, _, _, rfl, rfl, rfl⟩,
     kb_6 := KB.kwo (Dx := kD11) 3 ["pauses"] [] [] [.p 0, .p 1, .p 2, .k 0] kwo_nil (fun _ _ => .nil) fun us mv ws h1 h2 h3 => match us, mv, ws, h1, h2, h3 with | [_, _, _], [], [_], _, _, _ => rfl,
     z_tuple := PySem.W.mg_none_of X GG z_tuple,
     z_isinstance := PySem.W.mg_none_of X GG z_isinstance,
     z_len := PySem.W.mg_none_of X GG z_len,
     z_str := PySem.W.mg_none_of X GG z_str,
     z_int := PySem.W.mg_none_of X GG z_int,
     z_bool := PySem.W.mg_none_of X GG z_bool,
     z_enumerate := PySem.W.mg_none_of X GG z_enumerate,
     z_zip := PySem.W.mg_none_of X GG z_zip,
     z_all := PySem.W.mg_none_of X GG z_all,
     z_list := PySem.W.mg_none_of X GG z_list,
     z_range := PySem.W.mg_none_of X GG z_range,
     z_sorted := PySem.W.mg_none_of X GG z_sorted,
     t__MOST_BASES := _, g__MOST_BASES := PySem.W.mg_of X GG v__MOST_BASES,
     t__GREATEST_BASE := _, g__GREATEST_BASE := PySem.W.mg_of X GG v__GREATEST_BASE,
     t__MOST_STATES := _, g__MOST_STATES := PySem.W.mg_of X GG v__MOST_STATES,
     t_MOST_PAUSES := _, g_MOST_PAUSES := PySem.W.mg_of X GG v_MOST_PAUSES,
     t_MOST_ROWS := _, g_MOST_ROWS := PySem.W.mg_of X GG v_MOST_ROWS,
     t__MOST_POSITIONS := _, g__MOST_POSITIONS := PySem.W.mg_of X GG v__MOST_POSITIONS,
     g_gcd := PySem.W.mg_of X GG v_gcd }
theorem fin {P : Program} {w : World} {K : PySem.W.Frag} {h : Heap} {mg : Str → Option Value} {fa : Addr} {G : Nat → Option Addr} (X : K.In h) (GG : h.Ns mainGlobals mg) (hfa : mg "law" = some (.ref fa)) (T : TX K mg w G) :
    ∃ (fd : FuncData) (G : Nat → Option Addr), (∀ (s : Shared) (u : Value), BindsTo s fd ⟨[u], []⟩ [("script", u)]) ∧ ∀ base : Heap, K.In base → base.Ns mainGlobals mg → FnG P w K mg base 10 fa fd ["script"] (spM K G 1 m_law) := by
  obtain rfl : T.a_law = fa := by
    have q := T.g_law.symm.trans hfa
    injection q with q
    injection q
  refine ⟨T.d_law, G, fun s u => ?_, fun base _ _ => ok_law T⟩
  obtain ⟨oc, od, kV, doc, pm, an, cdv, ct, osl, e, lk, hcd⟩ := T.F_law.ex
  rw [e]
  exact .of_eq rfl
end K35

open PySem PySem.W PyProof.Rows
set_option maxHeartbeats 0 in
theorem PySem.Challenge.cw_pauseplaces_k35_known_rounds_holds : PySem.Challenge.rw_pauseplaces_k35_known_rounds.Holds := by
  w_on; o_law; k_head; (case hw => w_witness2)
  k_fill
  refine MM.walkG (l := PySem.Challenge.rw_pauseplaces_k35_known_rounds) (n := 63) (k := 10) (x := "script") (fm := K35.m_law) rfl (by decide) rfl ⟨rfl, by decide, by decide⟩ (fun w h Y => PySem.W.kIn_of Y) ?F K35.law_true
  case F =>
    intro w mg fa h KX G hmg
    refine' K35.fin KX G hmg (K35.all_mk KX G ?cg_BadShape ?cg_BadState ?cg_BadRow ?cg_BadPauses ?cg_Long ?cg_Losing ?cg_TooMany ?cg_Program ?pg_Program ?hd_Program ?po_Program ?sa_Program ?cg_Prefixes ?pg_Prefixes ?hd_Prefixes ?po_Prefixes ?sa_Prefixes ?cg_FORMS ?kl_FORMS ?kk_FORMS ?ke_FORMS ?kw_FORMS ?a0 ?l0 ?c0 ?k0 ?a1 ?l1 ?c1 ?k1 ?a2 ?l2 ?c2 ?k2 ?a3 ?l3 ?c3 ?k3 ?a4 ?l4 ?c4 ?k4 ?a5 ?l5 ?c5 ?k5 ?a6 ?l6 ?c6 ?k6 ?a7 ?l7 ?c7 ?k7 ?a8 ?l8 ?c8 ?k8 ?a9 ?l9 ?c9 ?k9 ?a10 ?l10 ?c10 ?k10 ?a11 ?i11 ?l11 ?c11 ?k11 ?a12 ?l12 ?c12 ?k12 ?dh12 ?a13 ?l13 ?c13 ?k13 ?a14 ?l14 ?c14 ?k14 ?a15 ?l15 ?c15 ?k15 ?a16 ?l16 ?c16 ?k16 ?a17 ?l17 ?c17 ?k17 ?a18 ?l18 ?c18 ?k18 ?dh18 ?a19 ?i19 ?l19 ?c19 ?k19 ?a20 ?l20 ?c20 ?k20 ?a21 ?l21 ?c21 ?k21 ?a22 ?l22 ?c22 ?k22 ?a23 ?l23 ?c23 ?k23 ?a24 ?i24 ?l24 ?c24 ?k24 ?a25 ?i25 ?l25 ?c25 ?k25 ?a26 ?l26 ?c26 ?k26 ?a27 ?l27 ?c27 ?k27 ?a28 ?l28 ?c28 ?k28 ?a29 ?l29 ?c29 ?k29 ?a30 ?l30 ?c30 ?k30 ?a31 ?l31 ?c31 ?k31 ?a32 ?l32 ?c32 ?k32 ?a33 ?l33 ?c33 ?k33 ?a34 ?l34 ?c34 ?k34 ?a35 ?l35 ?c35 ?k35 ?a36 ?l36 ?c36 ?k36 ?a37 ?l37 ?c37 ?k37 ?a38 ?l38 ?c38 ?k38 ?mi_Prefixes ?mp_Prefixes ?mi_Program ?mp_Program ?na_Program_shape ?na_Program_rows ?na_Program_pauses ?na_Program_places ?na_Prefixes_whole ?na_Prefixes_logs ?xl_BadShape ?xr_BadShape ?xs_BadShape ?xe_BadShape ?xt_BadShape ?xk_BadShape ?xi_BadShape ?xf_BadShape ?xm_BadShape ?xc_BadShape ?xp_BadShape ?xl_BadRow ?xr_BadRow ?xs_BadRow ?xe_BadRow ?xt_BadRow ?xk_BadRow ?xi_BadRow ?xf_BadRow ?xm_BadRow ?xc_BadRow ?xp_BadRow ?xl_Long ?xr_Long ?xs_Long ?xe_Long ?xt_Long ?xk_Long ?xi_Long ?xf_Long ?xm_Long ?xc_Long ?xp_Long ?xl_BadPauses ?xr_BadPauses ?xs_BadPauses ?xe_BadPauses ?xt_BadPauses ?xk_BadPauses ?xi_BadPauses ?xf_BadPauses ?xm_BadPauses ?xc_BadPauses ?xp_BadPauses ?xl_TooMany ?xr_TooMany ?xs_TooMany ?xe_TooMany ?xt_TooMany ?xk_TooMany ?xi_TooMany ?xf_TooMany ?xm_TooMany ?xc_TooMany ?xp_TooMany ?xl_Losing ?xr_Losing ?xs_Losing ?xe_Losing ?xt_Losing ?xk_Losing ?xi_Losing ?xf_Losing ?xm_Losing ?xc_Losing ?xp_Losing ?xl_BadState ?xr_BadState ?xs_BadState ?xe_BadState ?xt_BadState ?xk_BadState ?xi_BadState ?xf_BadState ?xm_BadState ?xc_BadState ?xp_BadState ?nf_BadRow_index ?nf_Losing_index ?kn5 ?ku5 ?z_tuple ?z_isinstance ?z_len ?z_str ?z_int ?z_bool ?z_enumerate ?z_zip ?z_all ?z_list ?z_range ?z_sorted ?v__MOST_BASES ?v__GREATEST_BASE ?v__MOST_STATES ?v_MOST_PAUSES ?v_MOST_ROWS ?v__MOST_POSITIONS ?v_gcd)
    (case cg_BadShape => k_is); (case cg_BadState => k_is); (case cg_BadRow => k_is); (case cg_BadPauses => k_is); (case cg_Long => k_is); (case cg_Losing => k_is); (case cg_TooMany => k_is); (case cg_Program => k_is); (case pg_Program => k_is); (case hd_Program => k_is); (case po_Program => k_is); (case sa_Program => k_is); (case cg_Prefixes => k_is); (case pg_Prefixes => k_is); (case hd_Prefixes => k_is); (case po_Prefixes => k_is); (case sa_Prefixes => k_is); (case cg_FORMS => k_is); (case kl_FORMS => k_is); (case kk_FORMS => exact ⟨⟨_, _, rfl, rfl⟩, ⟨⟨_, _, rfl, rfl⟩, ⟨⟨_, _, rfl, rfl⟩, ⟨⟨_, _, rfl, rfl⟩, ⟨⟨_, _, rfl, rfl⟩, ⟨⟨_, _, rfl, rfl⟩, trivial⟩⟩⟩⟩⟩⟩); (case ke_FORMS => exact (.cons rfl rfl (.cons rfl rfl (.cons rfl rfl (.cons rfl rfl (.cons rfl rfl (.cons rfl rfl .nil))))))); (case kw_FORMS => decide); (case a0 => k_is); (case l0 => k_is); (case c0 => k_is); (case k0 => k_is); (case a1 => k_is); (case l1 => k_is); (case c1 => k_is); (case k1 => k_is); (case a2 => k_is); (case l2 => k_is); (case c2 => k_is); (case k2 => k_is); (case a3 => k_is); (case l3 => k_is); (case c3 => k_is); (case k3 => k_is); (case a4 => k_is); (case l4 => k_is); (case c4 => k_is); (case k4 => k_is); (case a5 => k_is); (case l5 => k_is); (case c5 => k_is); (case k5 => k_is); (case a6 => k_is); (case l6 => k_is); (case c6 => k_is); (case k6 => k_is); (case a7 => k_is); (case l7 => k_is); (case c7 => k_is); (case k7 => k_is); (case a8 => k_is); (case l8 => k_is); (case c8 => k_is); (case k8 => k_is); (case a9 => k_is); (case l9 => k_is); (case c9 => k_is); (case k9 => k_is); (case a10 => k_is); (case l10 => k_is); (case c10 => k_is); (case k10 => k_is); (case a11 => k_is); (case i11 => k_is); (case l11 => k_is); (case c11 => k_is); (case k11 => k_is); (case a12 => k_is); (case l12 => k_is); (case c12 => k_is); (case k12 => k_is); (case dh12 => k_is); (case a13 => k_is); (case l13 => k_is); (case c13 => k_is); (case k13 => k_is); (case a14 => k_is); (case l14 => k_is); (case c14 => k_is); (case k14 => k_is); (case a15 => k_is); (case l15 => k_is); (case c15 => k_is); (case k15 => k_is); (case a16 => k_is); (case l16 => k_is); (case c16 => k_is); (case k16 => k_is); (case a17 => k_is); (case l17 => k_is); (case c17 => k_is); (case k17 => k_is); (case a18 => k_is); (case l18 => k_is); (case c18 => k_is); (case k18 => k_is); (case dh18 => k_is); (case a19 => k_is); (case i19 => k_is); (case l19 => k_is); (case c19 => k_is); (case k19 => k_is); (case a20 => k_is); (case l20 => k_is); (case c20 => k_is); (case k20 => k_is); (case a21 => k_is); (case l21 => k_is); (case c21 => k_is); (case k21 => k_is); (case a22 => k_is); (case l22 => k_is); (case c22 => k_is); (case k22 => k_is); (case a23 => k_is); (case l23 => k_is); (case c23 => k_is); (case k23 => k_is); (case a24 => k_is); (case i24 => k_is); (case l24 => k_is); (case c24 => k_is); (case k24 => k_is); (case a25 => k_is); (case i25 => k_is); (case l25 => k_is); (case c25 => k_is); (case k25 => k_is); (case a26 => k_is); (case l26 => k_is); (case c26 => k_is); (case k26 => k_is); (case a27 => k_is); (case l27 => k_is); (case c27 => k_is); (case k27 => k_is); (case a28 => k_is); (case l28 => k_is); (case c28 => k_is); (case k28 => k_is); (case a29 => k_is); (case l29 => k_is); (case c29 => k_is); (case k29 => k_is); (case a30 => k_is); (case l30 => k_is); (case c30 => k_is); (case k30 => k_is); (case a31 => k_is); (case l31 => k_is); (case c31 => k_is); (case k31 => k_is); (case a32 => k_is); (case l32 => k_is); (case c32 => k_is); (case k32 => k_is); (case a33 => k_is); (case l33 => k_is); (case c33 => k_is); (case k33 => k_is); (case a34 => k_is); (case l34 => k_is); (case c34 => k_is); (case k34 => k_is); (case a35 => k_is); (case l35 => k_is); (case c35 => k_is); (case k35 => k_is); (case a36 => k_is); (case l36 => k_is); (case c36 => k_is); (case k36 => k_is); (case a37 => k_is); (case l37 => k_is); (case c37 => k_is); (case k37 => k_is); (case a38 => k_is); (case l38 => k_is); (case c38 => k_is); (case k38 => k_is); (case mi_Prefixes => k_is); (case mp_Prefixes => k_is); (case mi_Program => k_is); (case mp_Program => k_is); (case na_Program_shape => k_is); (case na_Program_rows => k_is); (case na_Program_pauses => k_is); (case na_Program_places => k_is); (case na_Prefixes_whole => k_is); (case na_Prefixes_logs => k_is); (case xl_BadShape => k_is); (case xr_BadShape => decide +kernel); (case xs_BadShape => k_is); (case xe_BadShape => k_is); (case xt_BadShape => k_is); (case xk_BadShape => k_is); (case xi_BadShape => k_is); (case xf_BadShape => k_is); (case xm_BadShape => k_is); (case xc_BadShape => k_is); (case xp_BadShape => k_is); (case xl_BadRow => k_is); (case xr_BadRow => decide +kernel); (case xs_BadRow => k_is); (case xe_BadRow => k_is); (case xt_BadRow => k_is); (case xk_BadRow => k_is); (case xi_BadRow => k_is); (case xf_BadRow => k_is); (case xm_BadRow => k_is); (case xc_BadRow => k_is); (case xp_BadRow => k_is); (case xl_Long => k_is); (case xr_Long => decide +kernel); (case xs_Long => k_is); (case xe_Long => k_is); (case xt_Long => k_is); (case xk_Long => k_is); (case xi_Long => k_is); (case xf_Long => k_is); (case xm_Long => k_is); (case xc_Long => k_is); (case xp_Long => k_is); (case xl_BadPauses => k_is); (case xr_BadPauses => decide +kernel); (case xs_BadPauses => k_is); (case xe_BadPauses => k_is); (case xt_BadPauses => k_is); (case xk_BadPauses => k_is); (case xi_BadPauses => k_is); (case xf_BadPauses => k_is); (case xm_BadPauses => k_is); (case xc_BadPauses => k_is); (case xp_BadPauses => k_is); (case xl_TooMany => k_is); (case xr_TooMany => decide +kernel); (case xs_TooMany => k_is); (case xe_TooMany => k_is); (case xt_TooMany => k_is); (case xk_TooMany => k_is); (case xi_TooMany => k_is); (case xf_TooMany => k_is); (case xm_TooMany => k_is); (case xc_TooMany => k_is); (case xp_TooMany => k_is); (case xl_Losing => k_is); (case xr_Losing => decide +kernel); (case xs_Losing => k_is); (case xe_Losing => k_is); (case xt_Losing => k_is); (case xk_Losing => k_is); (case xi_Losing => k_is); (case xf_Losing => k_is); (case xm_Losing => k_is); (case xc_Losing => k_is); (case xp_Losing => k_is); (case xl_BadState => k_is); (case xr_BadState => decide +kernel); (case xs_BadState => k_is); (case xe_BadState => k_is); (case xt_BadState => k_is); (case xk_BadState => k_is); (case xi_BadState => k_is); (case xf_BadState => k_is); (case xm_BadState => k_is); (case xc_BadState => k_is); (case xp_BadState => k_is); (case nf_BadRow_index => k_is); (case nf_Losing_index => k_is); (case kn5 => k_is); (case ku5 => k_is); (case z_tuple => k_is); (case z_isinstance => k_is); (case z_len => k_is); (case z_str => k_is); (case z_int => k_is); (case z_bool => k_is); (case z_enumerate => k_is); (case z_zip => k_is); (case z_all => k_is); (case z_list => k_is); (case z_range => k_is); (case z_sorted => k_is); (case v__MOST_BASES => k_is); (case v__GREATEST_BASE => k_is); (case v__MOST_STATES => k_is); (case v_MOST_PAUSES => k_is); (case v_MOST_ROWS => k_is); (case v__MOST_POSITIONS => k_is); (case v_gcd => k_is)
