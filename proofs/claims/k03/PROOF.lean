import PyProof.Rows.All
import PySem.Challenge.RW_pauseplaces_k03_rows_done
import HandS.ForMost
import HandS.WordsExc
import HandS.CallSlots
import HandS.IsInst
import HandS.TupAny
import HandS.TupMul
import HandS.TupLe
import HandS.Zip
import HandS.Walk
import HandS.Deep
import HandS.Gcd
import KE.KDictKeyed
import HandS.Flow
import HandS.Style
import HandS.NoneIn
import HandS.Ends
import HandS.RaiseMore
import PyProof.ReprRoads
import KE.SortData
set_option Elab.async false
set_option linter.all false
set_option maxRecDepth 100000
set_option maxHeartbeats 4000000
set_option autoImplicit false
/-! values, objects, the machine's memory; what they stand for -/
namespace MM
open PySem PySem.Spec PyProof.Rows L2

inductive Ty where
  | int | bool | str | tuple | list | dict | none
  deriving DecidableEq
def Ty.name : Ty → String
  | .int => "int" | .bool => "bool" | .str => "str" | .tuple => "tuple" | .list => "list" | .dict => "dict" | .none => "NoneType"
/-- a value; rep d: the text that repr gives of d -/
inductive D where
  | non | bl (b : Bool) | int (i : Int) | str (x : Str) | tup (xs : List D) | ref (i : Nat) | ty (n : Ty) | stat (n : Nat) | rep (d : PyData)
/-- an object: a list, the script, a list of the written part, an instance; a dict with keys that are ints and texts, with keys that are tuples; the same, locked -/
inductive O where
  | lst (xs : List D) | ro (xs : List D) | kl (xs : List D) | ins (C : Nat) (fs : List (Str × D)) | dct (kvs : List (L2.Key × D)) | dt (kvs : List (D × D)) | rct (kvs : List (L2.Key × D)) | rdt (kvs : List (D × D))
def O.isK : O → Bool
  | .kl _ => true
  | _ => false

/-! ### memory -/
inductive Tr where
  | e | n (o : Option O) (l r : Tr)
def Tr.get : Tr → Nat → Option O
  | .e, _ => none
  | .n o l r, i => bif Nat.beq i 0 then o else bif Nat.beq (i % 2) 1 then l.get (i / 2) else r.get (i / 2 - 1)
def Tr.here : Tr → Option O
  | .e => none
  | .n o _ _ => o
def Tr.le : Tr → Tr
  | .e => .e
  | .n _ l _ => l
def Tr.ri : Tr → Tr
  | .e => .e
  | .n _ _ r => r
def Tr.put : Nat → Tr → Nat → O → Tr
  | 0, t, _, _ => t
  | f + 1, .e, i, o => bif Nat.beq i 0 then .n (some o) .e .e else bif Nat.beq (i % 2) 1 then .n none (Tr.put f .e (i / 2) o) .e else .n none .e (Tr.put f .e (i / 2 - 1) o)
  | f + 1, .n x l r, i, o => bif Nat.beq i 0 then .n (some o) l r else bif Nat.beq (i % 2) 1 then .n x (Tr.put f l (i / 2) o) r else .n x l (Tr.put f r (i / 2 - 1) o)
theorem Tr.put_eq (f : Nat) (t : Tr) (i : Nat) (o : O) : Tr.put (f + 1) t i o = bif Nat.beq i 0 then .n (some o) t.le t.ri else bif Nat.beq (i % 2) 1 then .n t.here (Tr.put f t.le (i / 2) o) t.ri else .n t.here t.le (Tr.put f t.ri (i / 2 - 1) o) := by
  cases t <;> rfl
/-! lengths, told without a deep count -/
def ltLen {α : Type} : List α → Nat → Bool
  | [], n => Nat.blt 0 n
  | _ :: xs, n => match n with
    | 0 => false
    | m + 1 => ltLen xs m
def leLen {α : Type} : List α → Nat → Bool
  | [], _ => true
  | _ :: xs, n => match n with
    | 0 => false
    | m + 1 => leLen xs m
def eqLen {α : Type} : List α → Nat → Bool
  | [], n => Nat.beq n 0
  | _ :: xs, n => match n with
    | 0 => false
    | m + 1 => eqLen xs m
theorem ltLen_iff {α : Type} : ∀ {xs : List α} {n : Nat}, ltLen xs n = true ↔ xs.length < n
  | [], n => by unfold ltLen; simp [Nat.blt_eq]
  | _ :: xs, 0 => by simp [ltLen]
  | _ :: xs, n + 1 => by simp only [ltLen, List.length_cons]; rw [ltLen_iff]; omega
theorem leLen_iff {α : Type} : ∀ {xs : List α} {n : Nat}, leLen xs n = true ↔ xs.length ≤ n
  | [], n => by simp [leLen]
  | _ :: xs, 0 => by simp [leLen]
  | _ :: xs, n + 1 => by simp only [leLen, List.length_cons]; rw [leLen_iff]; omega
theorem eqLen_iff {α : Type} : ∀ {xs : List α} {n : Nat}, eqLen xs n = true ↔ xs.length = n
  | [], n => by unfold eqLen; rw [Nat.beq_eq]; exact ⟨fun h => h.symm, fun h => h.symm⟩
  | _ :: xs, 0 => by simp [eqLen]
  | _ :: xs, n + 1 => by simp only [eqLen, List.length_cons]; rw [eqLen_iff]; omega
instance (priority := 100000) instLtLen {α : Type} (xs : List α) (n : Nat) : Decidable (xs.length < n) := match h : ltLen xs n with
  | true => .isTrue (ltLen_iff.mp h)
  | false => .isFalse fun q => by rw [ltLen_iff.mpr q] at h; cases h
instance (priority := 100000) instLeLen {α : Type} (xs : List α) (n : Nat) : Decidable (xs.length ≤ n) := match h : leLen xs n with
  | true => .isTrue (leLen_iff.mp h)
  | false => .isFalse fun q => by rw [leLen_iff.mpr q] at h; cases h
instance (priority := 100000) instEqLen {α : Type} (xs : List α) (n : Nat) : Decidable (xs.length = n) := match h : eqLen xs n with
  | true => .isTrue (eqLen_iff.mp h)
  | false => .isFalse fun q => by rw [eqLen_iff.mpr q] at h; cases h
theorem beq_f {a b : Nat} (h : a ≠ b) : Nat.beq a b = false := by
  cases e : Nat.beq a b with
  | false => rfl
  | true => exact absurd (Nat.eq_of_beq_eq_true e) h
theorem beq_t {a b : Nat} (h : a = b) : Nat.beq a b = true := by subst h; exact Nat.beq_refl a
theorem Tr.get_zero (t : Tr) : t.get 0 = t.here := by cases t <;> rfl
theorem Tr.get_odd (t : Tr) {i : Nat} (h0 : i ≠ 0) (h : i % 2 = 1) : t.get i = t.le.get (i / 2) := by
  cases t with
  | e => simp [Tr.get, Tr.le]
  | n o l r => rw [Tr.get, beq_f h0, beq_t h]; rfl
theorem Tr.get_even (t : Tr) {i : Nat} (h0 : i ≠ 0) (h : i % 2 ≠ 1) : t.get i = t.ri.get (i / 2 - 1) := by
  cases t with
  | e => simp [Tr.get, Tr.ri]
  | n o l r => rw [Tr.get, beq_f h0, beq_f h]; rfl
theorem Tr.get_put : ∀ (f : Nat) (t : Tr) (i : Nat) (o : O) (j : Nat), i + 1 < 2 ^ f → (t.put f i o).get j = if j = i then some o else t.get j
  | 0, t, i, o, j, h => by simp at h
  | f + 1, t, i, o, j, h => by
    have hp : 2 ^ (f + 1) = 2 * 2 ^ f := by rw [Nat.pow_succ, Nat.mul_comm]
    by_cases hi : i = 0
    · subst hi
      have e : t.put (f + 1) 0 o = .n (some o) t.le t.ri := by rw [Tr.put_eq]; rfl
      rw [e]
      by_cases hj : j = 0
      · subst hj; simp [Tr.get]
      · rw [if_neg hj]
        by_cases hm : j % 2 = 1
        · rw [Tr.get_odd _ hj hm, Tr.get_odd _ hj hm]; rfl
        · rw [Tr.get_even _ hj hm, Tr.get_even _ hj hm]; rfl
    · by_cases hm : i % 2 = 1
      · have e : t.put (f + 1) i o = .n t.here (t.le.put f (i / 2) o) t.ri := by rw [Tr.put_eq, beq_f hi]; first | rw [beq_t hm]; rfl | rw [beq_f hm]; rfl
        rw [e]
        by_cases hj : j = 0
        · subst hj
          rw [if_neg (Ne.symm hi), Tr.get_zero, Tr.get_zero]; rfl
        · by_cases hn : j % 2 = 1
          · rw [Tr.get_odd _ hj hn, Tr.get_odd t hj hn]
            show (t.le.put f (i / 2) o).get (j / 2) = _
            rw [Tr.get_put f t.le (i / 2) o (j / 2) (by omega)]
            by_cases q : j = i
            · subst q; simp
            · rw [if_neg q, if_neg (by omega)]
          · rw [Tr.get_even _ hj hn, Tr.get_even t hj hn, if_neg (by omega)]; rfl
      · have e : t.put (f + 1) i o = .n t.here t.le (t.ri.put f (i / 2 - 1) o) := by rw [Tr.put_eq, beq_f hi]; first | rw [beq_t hm]; rfl | rw [beq_f hm]; rfl
        rw [e]
        by_cases hj : j = 0
        · subst hj
          rw [if_neg (Ne.symm hi), Tr.get_zero, Tr.get_zero]; rfl
        · by_cases hn : j % 2 = 1
          · rw [Tr.get_odd _ hj hn, Tr.get_odd t hj hn, if_neg (by omega)]; rfl
          · rw [Tr.get_even _ hj hn, Tr.get_even t hj hn]
            show (t.ri.put f (i / 2 - 1) o).get (j / 2 - 1) = _
            rw [Tr.get_put f t.ri (i / 2 - 1) o (j / 2 - 1) (by omega)]
            by_cases q : j = i
            · subst q; simp
            · rw [if_neg q, if_neg (by omega)]
theorem lt_pow (i : Nat) : i + 1 < 2 ^ (i + 1) := Nat.lt_two_pow_self

structure MH where
  n : Nat
  t : Tr
def MH.get (h : MH) (i : Nat) : Option O := h.t.get i
def MH.set (h : MH) (i : Nat) (o : O) : MH := ⟨h.n, h.t.put (i + 1) i o⟩
def MH.add (h : MH) (o : O) : MH := ⟨h.n + 1, h.t.put (h.n + 1) h.n o⟩
def MH.nil : MH := ⟨0, .e⟩
theorem MH.get_nil (i : Nat) : MH.nil.get i = none := rfl
theorem MH.get_set (h : MH) (i j : Nat) (o : O) : (h.set i o).get j = if j = i then some o else h.get j := Tr.get_put _ _ _ _ _ (lt_pow i)
theorem MH.get_add (h : MH) (j : Nat) (o : O) : (h.add o).get j = if j = h.n then some o else h.get j := Tr.get_put _ _ _ _ _ (lt_pow h.n)
@[simp] theorem MH.n_set (h : MH) (i : Nat) (o : O) : (h.set i o).n = h.n := rfl
@[simp] theorem MH.n_add (h : MH) (o : O) : (h.add o).n = h.n + 1 := rfl
@[simp] theorem MH.get_set_same (h : MH) (i : Nat) (o : O) : (h.set i o).get i = some o := by rw [MH.get_set, if_pos rfl]
theorem MH.get_set_ne (h : MH) {i j : Nat} (o : O) (e : j ≠ i) : (h.set i o).get j = h.get j := by rw [MH.get_set, if_neg e]
@[simp] theorem MH.get_add_same (h : MH) (o : O) : (h.add o).get h.n = some o := by rw [MH.get_add, if_pos rfl]
theorem MH.get_add_ne (h : MH) {j : Nat} (o : O) (e : j ≠ h.n) : (h.add o).get j = h.get j := by rw [MH.get_add, if_neg e]

/-! ### keys that are tuples -/
mutual
def nk : D → Option NestedKey
  | .non => some .none
  | .int i => some (.num i)
  | .tup xs => (nks xs).map .tup
  | _ => none
def nks : List D → Option (List NestedKey)
  | [] => some []
  | x :: xs => match nk x with
    | some k => (nks xs).map (k :: ·)
    | none => none
end
mutual
/-- hash, of a key without texts -/
def hz : NestedKey → Int
  | .none => reduceHash 0xFCA86420
  | .num i => hashInt i
  | .text _ => 0
  | .tup ks => reduceHash (Builtin.Tuple.tupleHashOf (hzs ks))
def hzs : List NestedKey → List Int
  | [] => []
  | k :: ks => hz k :: hzs ks
end
mutual
def nfree : NestedKey → Bool
  | .text _ => false
  | .tup ks => nfrees ks
  | _ => true
def nfrees : List NestedKey → Bool
  | [] => true
  | k :: ks => nfree k && nfrees ks
end
mutual
theorem hz_eq (w : World) : ∀ k : NestedKey, nfree k = true → k.hash w = hz k
  | .none, _ => rfl
  | .num i, _ => rfl
  | .text _, h => by simp [nfree] at h
  | .tup ks, h => by rw [NestedKey.hash, hz, hzs_eq w ks (by simpa [nfree] using h)]
theorem hzs_eq (w : World) : ∀ ks : List NestedKey, nfrees ks = true → NestedKey.hashes w ks = hzs ks
  | [], _ => rfl
  | k :: ks, h => by
    rw [nfrees, Bool.and_eq_true] at h
    rw [NestedKey.hashes, hzs, hz_eq w k h.1, hzs_eq w ks h.2]
end
mutual
theorem nk_free : ∀ {d : D} {k : NestedKey}, nk d = some k → nfree k = true
  | .non, _, e => by cases e; rfl
  | .int i, _, e => by cases e; rfl
  | .tup xs, _, e => by
    rw [nk, Option.map_eq_some_iff] at e
    obtain ⟨ks, e1, rfl⟩ := e
    exact nks_free e1
  | .bl _, _, e => nomatch e
  | .str _, _, e => nomatch e
  | .ref _, _, e => nomatch e
  | .ty _, _, e => nomatch e
  | .stat _, _, e => nomatch e
  | .rep _, _, e => nomatch e
theorem nks_free : ∀ {xs : List D} {ks : List NestedKey}, nks xs = some ks → nfrees ks = true
  | [], _, e => by cases e; rfl
  | x :: xs, _, e => by
    rw [nks] at e
    cases e1 : nk x with
    | none => rw [e1] at e; cases e
    | some k =>
      rw [e1] at e
      simp only [Option.map_eq_some_iff] at e
      obtain ⟨ks, e2, rfl⟩ := e
      rw [nfrees, nk_free e1, nks_free e2]; rfl
end
def entN (x : NestedKey × Addr × V) (v : Value) : DictEntry := ⟨hz x.1, .ref x.2.1, v⟩
/-- a dict with the keys and values xs -/
def dtP (a : Addr) (xs : List (NestedKey × Addr × V)) (h : Heap) : Prop := ∃ (o : Obj) (es : Array DictEntry) (ep : Nat) (ws : List Value), h.get? a = some o ∧ o.ExactDict ∧ o.data = .dict es ep ∧ Vals (xs.map (·.2.2)) ws ∧ es.toList = List.zipWith entN xs ws
def dtO (a : Addr) (xs : List (NestedKey × Addr × V)) : HO := .ext (dtP a xs)
/-- what is so of the entries, whatever the heap -/
structure DtOk (a : Addr) (xs : List (NestedKey × Addr × V)) : Prop where
  nd : (xs.map (·.1)).Nodup
  len : xs.length ≤ sizeLine
  low : (a == sysModules) = false
  dep : ∀ x ∈ xs, x.1.depth ≤ 8

/-! ### what is stood for -/
section
variable (K : PySem.W.Frag) (G : Nat → Option Addr)
mutual
inductive RD (ρ : List Addr) (H : Hp) : D → V → Prop
  | non : RD ρ H .non .non
  | bl (b : Bool) : RD ρ H (.bl b) (.bl b)
  | int (i : Int) : RD ρ H (.int i) (.int i)
  | str (x : Str) : RD ρ H (.str x) (.str x)
  | tup {a : Addr} {ds : List D} {xs : List V} : SqT K H a xs → RDs ρ H ds xs → RD ρ H (.tup ds) (.ref a)
  | ref {i : Nat} {a : Addr} : ρ[i]? = some a → RD ρ H (.ref i) (.ref a)
  | ty (n : Ty) : RD ρ H (.ty n) (.ty n.name)
  | rep (d : PyData) : RD ρ H (.rep d) (.str d.shown)
  | stat {n : Nat} {a : Addr} : G n = some a → RD ρ H (.stat n) (.ref a)
inductive RDs (ρ : List Addr) (H : Hp) : List D → List V → Prop
  | nil : RDs ρ H [] []
  | cons {d : D} {v : V} {ds : List D} {vs : List V} : RD ρ H d v → RDs ρ H ds vs → RDs ρ H (d :: ds) (v :: vs)
end
/-- attributes by name -/
inductive RFs {κ : Type} (ρ : List Addr) (H : Hp) : List (κ × D) → List (κ × V) → Prop
  | nil : RFs ρ H [] []
  | cons {f : κ} {d : D} {v : V} {ds : List (κ × D)} {vs : List (κ × V)} : RD K G ρ H d v → RFs ρ H ds vs → RFs ρ H ((f, d) :: ds) ((f, v) :: vs)
/-- entries whose keys are tuples -/
inductive RKs (ρ : List Addr) (H : Hp) : List (D × D) → List (NestedKey × Addr × V) → Prop
  | nil : RKs ρ H [] []
  | cons {d e : D} {k : NestedKey} {b : Addr} {v : V} {ds : List (D × D)} {vs : List (NestedKey × Addr × V)} : nk d = some k → RD K G ρ H d (.ref b) → RD K G ρ H e v → RKs ρ H ds vs → RKs ρ H ((d, e) :: ds) ((k, b, v) :: vs)
/-- a tuple that has no dict of its own -/
def NdT (H : Hp) (b : Addr) : Prop := ∃ o : Obj, o.dict = none ∧ o.cls = .type "tuple" ∧ ((∃ xs, H b = some (.frz o (.tup xs))) ∨ K.lookup b = some o)
abbrev plN : Str := "places"
/-- so is what an attribute of that name holds, if it holds a tuple -/
def NdF (H : Hp) (fs : List (Str × D)) (vs : List (Str × V)) : Prop := ∀ ds v, fs.lookup plN = some (.tup ds) → vs.lookup plN = some v → ∃ b, v = .ref b ∧ NdT K H b
def RO (ρ : List Addr) (H : Hp) (a : Addr) : O → Prop
  | .lst ds => ∃ xs, H a = some (.lst xs) ∧ RDs K G ρ H ds xs
  | .ro ds => ∃ o xs, H a = some (.frz o (.lst xs)) ∧ RDs K G ρ H ds xs
  | .kl ds => ∃ xs, (∀ H, SqL K H a xs) ∧ RDs K G ρ H ds xs
  | .ins C fs => ∃ c dx vs, G C = some c ∧ H a = some (.ins c dx vs) ∧ RFs K G ρ H fs vs ∧ NdF K H fs vs
  | .dct ks => ∃ vs, H a = some (.dK vs) ∧ RFs K G ρ H ks vs
  | .rct ks => ∃ o vs, H a = some (.frz o (.dK vs)) ∧ RFs K G ρ H ks vs
  | .dt ks => ∃ vs, H a = some (dtO a vs) ∧ DtOk a vs ∧ RKs K G ρ H ks vs
  | .rdt ks => ∃ o vs, H a = some (.frz o (dtO a vs)) ∧ DtOk a vs ∧ RKs K G ρ H ks vs
structure Rel (ρ : List Addr) (h : MH) (H : Hp) : Prop where
  len : ρ.length = h.n
  ob : ∀ (i : Nat) (o : O), h.get i = some o → ∃ a, ρ[i]? = some a ∧ RO K G ρ H a o
  full : ∀ (i : Nat) (a : Addr), ρ[i]? = some a → ∃ o, h.get i = some o
  inj : ∀ (i j : Nat) (a : Addr) (o u : O), h.get i = some o → h.get j = some u → o.isK = false → u.isK = false → ρ[i]? = some a → ρ[j]? = some a → i = j
/-- later: what was named still is, what is new was free; tuples stay; what was not named stays -/
structure Fut (ρ : List Addr) (H : Hp) (ρ' : List Addr) (H' : Hp) : Prop where
  pre : ∃ t, ρ' = ρ ++ t ∧ ∀ p ∈ t, H p = none
  tup : ∀ a xs, SqT K H a xs → SqT K H' a xs
  fr : ∀ a o, H a = some o → a ∉ ρ → H' a = some o
  keep : ∀ a, H' a = none → H a = none
  xd : ∀ a fs, H a = some (.xd fs) → H' a = some (.xd fs)
  frz : ∀ a o u, H a = some (.frz o u) → H' a = some (.frz o u)
end

section
variable {K : PySem.W.Frag} {G : Nat → Option Addr} {ρ ρ' ρ2 : List Addr} {H H' H2 : Hp} {h h' : MH}
theorem Fut.refl : Fut K ρ H ρ H := ⟨⟨[], by simp⟩, fun _ _ q => q, fun _ _ q _ => q, fun _ q => q, fun _ _ q => q, fun _ _ _ q => q⟩
theorem Fut.trans (a : Fut K ρ H ρ' H') (b : Fut K ρ' H' ρ2 H2) : Fut K ρ H ρ2 H2 := by
  obtain ⟨t, rfl, ht⟩ := a.pre
  obtain ⟨u, rfl, hu⟩ := b.pre
  refine ⟨⟨t ++ u, by simp, fun p hp => ?_⟩, fun c xs q => b.tup c xs (a.tup c xs q), fun c o q nc => ?_, fun c q => a.keep c (b.keep c q), fun c fs q => b.xd c fs (a.xd c fs q), fun c o u q => b.frz c o u (a.frz c o u q)⟩
  · rcases List.mem_append.mp hp with z | z
    · exact ht p z
    · exact a.keep p (hu p z)
  · refine b.fr c o (a.fr c o q nc) fun z => ?_
    rcases List.mem_append.mp z with z | z
    · exact nc z
    · rw [ht c z] at q; cases q
theorem Fut.at (f : Fut K ρ H ρ' H') {i : Nat} {a : Addr} (e : ρ[i]? = some a) : ρ'[i]? = some a := by
  obtain ⟨t, rfl, _⟩ := f.pre
  have hl : i < ρ.length := (List.getElem?_eq_some_iff.mp e).1
  rw [List.getElem?_append_left hl]; exact e
mutual
theorem RD.fut (f : Fut K ρ H ρ' H') : ∀ {d : D} {v : V}, RD K G ρ H d v → RD K G ρ' H' d v
  | _, _, .non => .non
  | _, _, .bl b => .bl b
  | _, _, .int i => .int i
  | _, _, .str x => .str x
  | _, _, .tup a b => .tup (f.tup _ _ a) (RDs.fut f b)
  | _, _, .ref e => .ref (f.at e)
  | _, _, .ty n => .ty n
  | _, _, .rep n => .rep n
  | _, _, .stat e => .stat e
theorem RDs.fut (f : Fut K ρ H ρ' H') : ∀ {d : List D} {v : List V}, RDs K G ρ H d v → RDs K G ρ' H' d v
  | _, _, .nil => .nil
  | _, _, .cons a b => .cons (RD.fut f a) (RDs.fut f b)
end
theorem RFs.fut {κ : Type} (f : Fut K ρ H ρ' H') : ∀ {d : List (κ × D)} {v : List (κ × V)}, RFs K G ρ H d v → RFs K G ρ' H' d v
  | _, _, .nil => .nil
  | _, _, .cons a b => .cons (a.fut f) (RFs.fut f b)
theorem RKs.fut (f : Fut K ρ H ρ' H') : ∀ {d : List (D × D)} {v : List (NestedKey × Addr × V)}, RKs K G ρ H d v → RKs K G ρ' H' d v
  | _, _, .nil => .nil
  | _, _, .cons e a b c => .cons e (a.fut f) (b.fut f) (RKs.fut f c)
theorem NdT.fut {b : Addr} (f : Fut K ρ H ρ' H') (h : NdT K H b) : NdT K H' b := by
  obtain ⟨o, h1, h2, h3⟩ := h
  exact ⟨o, h1, h2, h3.imp (fun ⟨xs, e⟩ => ⟨xs, f.frz _ _ _ e⟩) id⟩
theorem NdF.fut {fs : List (Str × D)} {vs : List (Str × V)} (f : Fut K ρ H ρ' H') (h : NdF K H fs vs) : NdF K H' fs vs := fun ds v e0 e => let ⟨b, e1, e2⟩ := h ds v e0 e; ⟨b, e1, e2.fut f⟩
theorem RDs.length : ∀ {d : List D} {v : List V}, RDs K G ρ H d v → d.length = v.length
  | _, _, .nil => rfl
  | _, _, .cons _ b => by simp [RDs.length b]
theorem RDs.get : ∀ {d : List D} {v : List V} {i : Nat} {x : D}, RDs K G ρ H d v → d[i]? = some x → ∃ y, v[i]? = some y ∧ RD K G ρ H x y
  | _, _, i, x, .nil, e => by simp at e
  | _, _, 0, x, .cons a b, e => by simp at e; subst e; exact ⟨_, by simp, a⟩
  | _, _, i + 1, x, .cons a b, e => by
    obtain ⟨y, h1, h2⟩ := RDs.get (i := i) (x := x) b (by simpa using e)
    exact ⟨y, by simpa using h1, h2⟩
theorem RDs.append : ∀ {d e : List D} {v w : List V}, RDs K G ρ H d v → RDs K G ρ H e w → RDs K G ρ H (d ++ e) (v ++ w)
  | _, _, _, _, .nil, b => b
  | _, _, _, _, .cons a c, b => .cons a (RDs.append c b)
theorem RDs.take : ∀ {d : List D} {v : List V} (n : Nat), RDs K G ρ H d v → RDs K G ρ H (d.take n) (v.take n)
  | _, _, 0, _ => .nil
  | _, _, n + 1, .nil => .nil
  | _, _, n + 1, .cons a b => .cons a (RDs.take n b)
theorem RDs.drop : ∀ {d : List D} {v : List V} (n : Nat), RDs K G ρ H d v → RDs K G ρ H (d.drop n) (v.drop n)
  | _, _, 0, r => r
  | _, _, n + 1, .nil => .nil
  | _, _, n + 1, .cons a b => RDs.drop n b
theorem RDs.set : ∀ {d : List D} {v : List V} (i : Nat) {x : D} {y : V}, RDs K G ρ H d v → RD K G ρ H x y → RDs K G ρ H (d.set i x) (v.set i y)
  | _, _, _, _, _, .nil, _ => .nil
  | _, _, 0, _, _, .cons a b, r => .cons r b
  | _, _, i + 1, _, _, .cons a b, r => .cons a (RDs.set i b r)
theorem RDs.rep {d : List D} {v : List V} (r : RDs K G ρ H d v) : ∀ n : Nat, RDs K G ρ H (List.replicate n d).flatten (List.replicate n v).flatten
  | 0 => .nil
  | n + 1 => by
    rw [List.replicate_succ, List.replicate_succ, List.flatten_cons, List.flatten_cons]
    exact r.append (RDs.rep r n)
theorem RDs.nil_iff {d : List D} {v : List V} (r : RDs K G ρ H d v) : d = [] ↔ v = [] := by
  cases r with
  | nil => simp
  | cons a b => simp
theorem RO.fut {a : Addr} {o : O} (f : Fut K ρ H ρ' H') (k : o.isK = false → H' a = H a) (r : RO K G ρ H a o) : RO K G ρ' H' a o := by
  cases o with
  | lst ds => obtain ⟨xs, e, q⟩ := r; exact ⟨xs, (k rfl).trans e, q.fut f⟩
  | ro ds => obtain ⟨o, xs, e, q⟩ := r; exact ⟨o, xs, (k rfl).trans e, q.fut f⟩
  | kl ds => obtain ⟨xs, e, q⟩ := r; exact ⟨xs, e, q.fut f⟩
  | ins C fs => obtain ⟨c, dx, vs, e0, e, q, nd⟩ := r; exact ⟨c, dx, vs, e0, (k rfl).trans e, q.fut f, nd.fut f⟩
  | dct ks => obtain ⟨vs, e, q⟩ := r; exact ⟨vs, (k rfl).trans e, q.fut f⟩
  | rct ks => obtain ⟨o, vs, e, q⟩ := r; exact ⟨o, vs, (k rfl).trans e, q.fut f⟩
  | dt ks => obtain ⟨vs, e, z, q⟩ := r; exact ⟨vs, (k rfl).trans e, z, q.fut f⟩
  | rdt ks => obtain ⟨o, vs, e, z, q⟩ := r; exact ⟨o, vs, (k rfl).trans e, z, q.fut f⟩
theorem RO.some {a : Addr} {o : O} (nk : o.isK = false) (r : RO K G ρ H a o) : ∃ u, H a = .some u := by
  cases o with
  | lst ds => obtain ⟨xs, e, q⟩ := r; exact ⟨_, e⟩
  | ro ds => obtain ⟨o, xs, e, q⟩ := r; exact ⟨_, e⟩
  | kl ds => cases nk
  | ins C fs => obtain ⟨c, dx, vs, e0, e, q, nd⟩ := r; exact ⟨_, e⟩
  | dct ks => obtain ⟨vs, e, q⟩ := r; exact ⟨_, e⟩
  | rct ks => obtain ⟨o, vs, e, q⟩ := r; exact ⟨_, e⟩
  | dt ks => obtain ⟨vs, e, z, q⟩ := r; exact ⟨_, e⟩
  | rdt ks => obtain ⟨o, vs, e, z, q⟩ := r; exact ⟨_, e⟩
/-- what is not a tuple may be changed -/
def NoTup (o : Option HO) : Prop := ∀ u : HO, o = .some u → (∀ xs, u ≠ .tup xs) ∧ (∀ b u', u ≠ .frz b u') ∧ ∀ fs, u ≠ .xd fs
theorem NoTup.none : NoTup none := fun _ e => nomatch e
theorem NoTup.lst (xs : List V) : NoTup (some (.lst xs)) := fun u e => by cases e; exact ⟨fun _ => HO.noConfusion, fun _ _ => HO.noConfusion, fun _ => HO.noConfusion⟩
theorem NoTup.dK (xs : List (L2.Key × V)) : NoTup (some (.dK xs)) := fun u e => by cases e; exact ⟨fun _ => HO.noConfusion, fun _ _ => HO.noConfusion, fun _ => HO.noConfusion⟩
theorem NoTup.dt (a : Addr) (xs : List (NestedKey × Addr × V)) : NoTup (some (dtO a xs)) := fun u e => by cases e; exact ⟨fun _ => HO.noConfusion, fun _ _ => HO.noConfusion, fun _ => HO.noConfusion⟩
theorem NoTup.ins {c dx : Addr} {fs : List (Str × V)} : NoTup (some (.ins c dx fs)) := fun u e => by cases e; exact ⟨fun _ => HO.noConfusion, fun _ _ => HO.noConfusion, fun _ => HO.noConfusion⟩
theorem sqT_upd {a b : Addr} {o : HO} {xs : List V} (n : NoTup (H b)) (q : SqT K H a xs) : SqT K (upd H b o) a xs := by
  rcases q with (e | ⟨u, e⟩) | e
  · have ne : a ≠ b := by rintro rfl; exact (n _ e).1 _ rfl
    exact .inl (.inl (by rw [upd_ne ne]; exact e))
  · have ne : a ≠ b := by rintro rfl; exact (n _ e).2.1 _ _ rfl
    exact .inl (.inr ⟨u, by rw [upd_ne ne]; exact e⟩)
  · exact .inr e
theorem upd_keep {b : Addr} {o : HO} : ∀ a, L2.upd H b o a = none → H a = none := fun a q => by
  by_cases h : a = b
  · subst h; rw [upd_same] at q; cases q
  · rw [upd_ne h] at q; exact q
theorem Fut.upd {b : Addr} {o : HO} (n : H b = none) : Fut K ρ H (ρ ++ [b]) (upd H b o) :=
  ⟨⟨[b], rfl, fun p hp => by rw [List.mem_singleton.mp hp]; exact n⟩, fun _ _ q => sqT_upd (by rw [n]; exact .none) q, fun a u q _ => by rw [upd_ne (ne_of_none q n)]; exact q, upd_keep, (fun a fs q => by rw [upd_ne (ne_of_none q n)]; exact q), fun a o u q => by rw [upd_ne (ne_of_none q n)]; exact q⟩
theorem Fut.updN {b : Addr} {o : HO} (n : H b = none) : Fut K ρ H ρ (L2.upd H b o) :=
  ⟨⟨[], by simp⟩, fun _ _ q => sqT_upd (by rw [n]; exact .none) q, fun a u q _ => by rw [upd_ne (ne_of_none q n)]; exact q, upd_keep, (fun a fs q => by rw [upd_ne (ne_of_none q n)]; exact q), fun a o u q => by rw [upd_ne (ne_of_none q n)]; exact q⟩
theorem Fut.updS {b : Addr} {o : HO} {i : Nat} (e : ρ[i]? = some b) (n : NoTup (H b)) : Fut K ρ H ρ (L2.upd H b o) :=
  ⟨⟨[], by simp⟩, fun _ _ q => sqT_upd n q, fun a u q na => by
    rw [upd_ne]
    · exact q
    · rintro rfl; exact na (List.mem_of_getElem? e), upd_keep, fun a fs q => by
    rw [upd_ne]
    · exact q
    · rintro rfl; exact (n _ q).2.2 _ rfl, fun a o u q => by
    rw [upd_ne]
    · exact q
    · rintro rfl; exact (n _ q).2.1 _ _ rfl⟩
theorem Rel.ne {i : Nat} {a p : Addr} {o : O} (r : Rel K G ρ h H) (q : h.get i = some o) (nk : o.isK = false) (e : ρ[i]? = some a) (n : H p = none) : a ≠ p := by
  obtain ⟨a', e', ro⟩ := r.ob i o q
  rw [e] at e'; cases e'
  obtain ⟨u, hu⟩ := ro.some nk
  rintro rfl
  rw [n] at hu; cases hu
theorem Rel.lt {i : Nat} {o : O} (r : Rel K G ρ h H) (e : h.get i = some o) : i < h.n := by
  obtain ⟨a, q, _⟩ := r.ob i o e
  rw [← r.len]
  exact (List.getElem?_eq_some_iff.mp q).1
/-- a new thing that is not named -/
theorem Rel.laid {p : Addr} {o : HO} (r : Rel K G ρ h H) (n : H p = none) : Rel K G ρ h (upd H p o) :=
  ⟨r.len, fun i ob e => by
    obtain ⟨a, q, ro⟩ := r.ob i ob e
    exact ⟨a, q, ro.fut (Fut.updN n) fun nk => upd_ne (r.ne e nk q n)⟩, r.full, r.inj⟩
/-- a new object -/
theorem Rel.new {p : Addr} {u : HO} {o : O} (r : Rel K G ρ h H) (n : H p = none) (nk : o.isK = false) (w : RO K G (ρ ++ [p]) (upd H p u) p o) : Rel K G (ρ ++ [p]) (h.add o) (upd H p u) := by
  have f : Fut K ρ H (ρ ++ [p]) (upd H p u) := Fut.upd n
  have at_new : (ρ ++ [p])[h.n]? = some p := by rw [← r.len]; simp
  have split : ∀ i a, (ρ ++ [p])[i]? = some a → (i = h.n ∧ a = p) ∨ (i ≠ h.n ∧ ρ[i]? = some a) := fun i a e => by
    by_cases hi : i = h.n
    · subst hi; rw [at_new] at e; cases e; exact .inl ⟨rfl, rfl⟩
    · refine .inr ⟨hi, ?_⟩
      have hl : i < (ρ ++ [p]).length := (List.getElem?_eq_some_iff.mp e).1
      rw [List.length_append, r.len] at hl
      simp at hl
      rw [List.getElem?_append_left (by rw [r.len]; omega)] at e
      exact e
  refine ⟨by simp [r.len], fun i ob e => ?_, fun i a e => ?_, fun i j a oi oj g1 g2 k1 k2 e1 e2 => ?_⟩
  · rw [MH.get_add] at e
    by_cases hi : i = h.n
    · rw [if_pos hi] at e; cases e
      exact ⟨p, by rw [hi]; exact at_new, w⟩
    · rw [if_neg hi] at e
      obtain ⟨a, q, ro⟩ := r.ob i ob e
      exact ⟨a, f.at q, ro.fut f fun nk => upd_ne (r.ne e nk q n)⟩
  · rw [MH.get_add]
    rcases split i a e with ⟨z, _⟩ | ⟨z, q⟩
    · rw [if_pos z]; exact ⟨_, rfl⟩
    · rw [if_neg z]; exact r.full i a q
  · rw [MH.get_add] at g1 g2
    rcases split i a e1 with ⟨z, y⟩ | ⟨z, q⟩
    · rcases split j a e2 with ⟨z', y'⟩ | ⟨z', q'⟩
      · rw [z, z']
      · rw [if_neg z'] at g2
        exact absurd y (r.ne g2 k2 q' n)
    · rw [if_neg z] at g1
      rcases split j a e2 with ⟨z', y'⟩ | ⟨z', q'⟩
      · exact absurd y' (r.ne g1 k1 q n)
      · rw [if_neg z'] at g2
        exact r.inj i j a oi oj g1 g2 k1 k2 q q'
/-- an object changes -/
theorem Rel.set {i : Nat} {a : Addr} {u : HO} {o o' : O} (r : Rel K G ρ h H) (g : h.get i = some o') (nk' : o'.isK = false) (nk : o.isK = false) (e : ρ[i]? = some a) (n : NoTup (H a)) (w : RO K G ρ (upd H a u) a o) : Rel K G ρ (h.set i o) (upd H a u) := by
  have f : Fut K ρ H ρ (upd H a u) := Fut.updS e n
  refine ⟨r.len, fun j ob q => ?_, fun j b q => ?_, fun x y b ox oy g1 g2 k1 k2 e1 e2 => ?_⟩
  · rw [MH.get_set] at q
    by_cases hj : j = i
    · rw [if_pos hj] at q; cases q
      exact ⟨a, by rw [hj]; exact e, w⟩
    · rw [if_neg hj] at q
      obtain ⟨b, eb, ro⟩ := r.ob j ob q
      refine ⟨b, eb, ro.fut f fun nk => upd_ne ?_⟩
      rintro rfl
      exact hj (r.inj _ _ _ _ _ q g nk nk' eb e)
  · rw [MH.get_set]
    by_cases hj : j = i
    · rw [if_pos hj]; exact ⟨_, rfl⟩
    · rw [if_neg hj]; exact r.full j b q
  · rw [MH.get_set] at g1 g2
    by_cases hx : x = i
    · by_cases hy : y = i
      · rw [hx, hy]
      · rw [if_neg hy] at g2
        subst hx
        exact r.inj _ _ _ _ _ g g2 nk' k2 e1 e2
    · rw [if_neg hx] at g1
      by_cases hy : y = i
      · subst hy
        exact r.inj _ _ _ _ _ g1 g k1 nk' e1 e2
      · rw [if_neg hy] at g2
        exact r.inj _ _ _ _ _ g1 g2 k1 k2 e1 e2
/-- a list's items -/
theorem Rel.lst {i : Nat} {ds : List D} (r : Rel K G ρ h H) (e : h.get i = some (.lst ds)) : ∃ a xs, ρ[i]? = some a ∧ H a = some (.lst xs) ∧ RDs K G ρ H ds xs := by
  obtain ⟨a, q, xs, w⟩ := r.ob i _ e
  exact ⟨a, xs, q, w⟩
end
/-- what may be read as a list -/
def MH.seq (h : MH) (i : Nat) : Option (List D) := match h.get i with
  | some (.lst xs) => some xs
  | some (.ro xs) => some xs
  | some (.kl xs) => some xs
  | _ => none
theorem Rel.seq {K : PySem.W.Frag} {G : Nat → Option Addr} {ρ : List Addr} {H : Hp} {h : MH} {i : Nat} {ds : List D} (r : Rel K G ρ h H) (e : h.seq i = some ds) : ∃ a xs, ρ[i]? = some a ∧ SqL K H a xs ∧ RDs K G ρ H ds xs := by
  unfold MH.seq at e
  split at e
  · rename_i xs q; cases e
    obtain ⟨a, ys, e1, e2, e3⟩ := r.lst q
    exact ⟨a, ys, e1, .of e2, e3⟩
  · rename_i xs q; cases e
    obtain ⟨a, e1, o, ys, e2, e3⟩ := r.ob i _ q
    exact ⟨a, ys, e1, .inl (.inr ⟨o, e2⟩), e3⟩
  · rename_i xs q; cases e
    obtain ⟨a, e1, ys, e2, e3⟩ := r.ob i _ q
    exact ⟨a, ys, e1, e2 H, e3⟩
  · cases e
end MM

set_option Elab.async false
set_option linter.all false
set_option maxRecDepth 100000
set_option maxHeartbeats 4000000
set_option autoImplicit false
/-! expressions: what they yield, and that the text yields it -/
namespace MM
open PySem PySem.Spec PyProof.Rows L2

/-- the local names' values -/
abbrev ME := List (Option D)
inductive Res (α : Type) where
  | ok (a : α) (h : MH) | exc (C : Nat) (fs : List (Str × D)) (h : MH) | bad
def Res.bind {α β : Type} (r : Res α) (f : α → MH → Res β) : Res β := match r with
  | .ok a h => f a h
  | .exc C fs h => .exc C fs h
  | .bad => .bad
@[simp] theorem Res.bind_ok {α β : Type} (a : α) (h : MH) (f : α → MH → Res β) : (Res.ok a h).bind f = f a h := rfl
@[simp] theorem Res.bind_exc {α β : Type} (C : Nat) (fs : List (Str × D)) (h : MH) (f : α → MH → Res β) : (Res.exc C fs h).bind f = .exc C fs h := rfl
@[simp] theorem Res.bind_bad {α β : Type} (f : α → MH → Res β) : (Res.bad : Res α).bind f = .bad := rfl
def ofOpt {α : Type} : Option (α × MH) → Res α
  | some (a, h) => .ok a h
  | none => .bad
@[simp] theorem ofOpt_some {α : Type} (p : α × MH) : ofOpt (some p) = .ok p.1 p.2 := rfl
@[simp] theorem ofOpt_none {α : Type} : ofOpt (none : Option (α × MH)) = .bad := rfl
/-- a value that needs no memory -/
def keep {α : Type} (h : MH) : Option α → Option (α × MH)
  | some a => some (a, h)
  | none => none
@[simp] theorem keep_some {α : Type} (h : MH) (a : α) : keep h (some a) = some (a, h) := rfl
@[simp] theorem keep_none {α : Type} (h : MH) : keep h (none : Option α) = none := rfl
abbrev Mx := ME → MH → Res D
abbrev Mt := ME → MH → Res Bool
abbrev Ma := ME → MH → Res (List D)

section
variable (K : PySem.W.Frag) (G : Nat → Option Addr)
/-- an exception's own dict: none, or its fields -/
def RX (ρ : List Addr) (H : Hp) (fs : List (Str × D)) (d : Option Addr) : Prop := (d = none ∧ fs = []) ∨ ∃ dd vs, d = some dd ∧ H dd = some (.xd vs) ∧ RFs K G ρ H fs vs
structure REnv (ρ : List Addr) (H : Hp) (env : ME) (σ : L2.St) : Prop where
  len : env.length = σ.length
  at_ : ∀ (i : Nat) (d : D), env[i]? = some (some d) → ∃ v, σ[i]? = some (some v) ∧ RD K G ρ H d v
/-- what follows a result -/
def Wp {α β : Type} (RA : List Addr → Hp → α → β → Prop) (ρ : List Addr) (H : Hp) (r : Res α) (Q : β → Hp → Prop) (E : XK) : Prop := match r with
  | .ok a h' => ∀ (ρ' : List Addr) (H' : Hp) (b : β), Fut K ρ H ρ' H' → Rel K G ρ' h' H' → RA ρ' H' a b → Q b H'
  | .exc C fs h' => ∀ (ρ' : List Addr) (H' : Hp) (c : Addr) (d : Option Addr), G C = some c → Fut K ρ H ρ' H' → Rel K G ρ' h' H' → RX K G ρ' H' fs d → E (.ref c) d H'
  | .bad => False
def RdE (W : WX) (m : Mx) : TE := fun σ H Q => ∃ (ρ : List Addr) (h : MH) (env : ME), Rel K G ρ h H ∧ REnv K G ρ H env σ ∧ Wp K G (RD K G) ρ H (m env h) Q (fun c d H' => W c d σ H')
def RdT (W : WX) (m : Mt) : TT := fun σ H Q => ∃ (ρ : List Addr) (h : MH) (env : ME), Rel K G ρ h H ∧ REnv K G ρ H env σ ∧ Wp K G (fun _ _ a b => a = b) ρ H (m env h) Q (fun c d H' => W c d σ H')
def RdA (W : WX) (m : Ma) : TA := fun σ H Q => ∃ (ρ : List Addr) (h : MH) (env : ME), Rel K G ρ h H ∧ REnv K G ρ H env σ ∧ Wp K G (RDs K G) ρ H (m env h) Q (fun c d H' => W c d σ H')
/-- a two-place operation on values -/
def rOp (f : D → D → MH → Option (D × MH)) : R2 := fun x y H Q => ∃ (ρ : List Addr) (h : MH) (a b v : D) (h' : MH), Rel K G ρ h H ∧ RD K G ρ H a x ∧ RD K G ρ H b y ∧ f a b h = some (v, h') ∧
  ∀ (ρ' : List Addr) (H' : Hp) (v' : V), Fut K ρ H ρ' H' → Rel K G ρ' h' H' → RD K G ρ' H' v v' → Q v' H'
/-- a call of a built-in thing with values -/
def rCall (f : List D → MH → Option (D × MH)) : List V → Hp → VK → Prop := fun xs H Q => ∃ (ρ : List Addr) (h : MH) (ds : List D) (v : D) (h' : MH), Rel K G ρ h H ∧ RDs K G ρ H ds xs ∧ f ds h = some (v, h') ∧
  ∀ (ρ' : List Addr) (H' : Hp) (v' : V), Fut K ρ H ρ' H' → Rel K G ρ' h' H' → RD K G ρ' H' v v' → Q v' H'
end

section
variable {K : PySem.W.Frag} {G : Nat → Option Addr} {ρ ρ' : List Addr} {H H' : Hp} {h h' : MH} {env : ME} {σ : L2.St}
theorem REnv.fut (r : REnv K G ρ H env σ) (f : Fut K ρ H ρ' H') : REnv K G ρ' H' env σ := ⟨r.len, fun i d e => by
  obtain ⟨v, q, w⟩ := r.at_ i d e
  exact ⟨v, q, w.fut f⟩⟩
theorem REnv.set {i : Nat} {d : D} {v : V} (r : REnv K G ρ H env σ) (w : RD K G ρ H d v) : REnv K G ρ H (env.set i (some d)) (σ.set i (some v)) := by
  refine ⟨by simp [r.len], fun j x e => ?_⟩
  by_cases hj : i = j
  · subst hj
    have hl : i < env.length := by
      have := (List.getElem?_eq_some_iff.mp e).1
      simpa using this
    rw [List.getElem?_set_self hl] at e
    cases e
    exact ⟨v, by rw [List.getElem?_set_self (by rw [← r.len]; exact hl)], w⟩
  · rw [List.getElem?_set_ne hj] at e
    obtain ⟨u, q, w'⟩ := r.at_ j x e
    exact ⟨u, by rw [List.getElem?_set_ne hj]; exact q, w'⟩
theorem REnv.unset {i : Nat} (r : REnv K G ρ H env σ) : REnv K G ρ H (env.set i none) σ := by
  refine ⟨by simp [r.len], fun j x e => ?_⟩
  by_cases hj : i = j
  · subst hj
    have hl : i < env.length := by
      have := (List.getElem?_eq_some_iff.mp e).1
      simpa using this
    rw [List.getElem?_set_self hl] at e
    cases e
  · rw [List.getElem?_set_ne hj] at e
    exact r.at_ j x e
theorem REnv.unset2 {i : Nat} (r : REnv K G ρ H env σ) : REnv K G ρ H (env.set i none) (σ.set i none) := by
  refine ⟨by simp [r.len], fun j x e => ?_⟩
  by_cases hj : i = j
  · subst hj
    have hl : i < env.length := by
      have := (List.getElem?_eq_some_iff.mp e).1
      simpa using this
    rw [List.getElem?_set_self hl] at e
    cases e
  · rw [List.getElem?_set_ne hj] at e
    obtain ⟨u, q, w'⟩ := r.at_ j x e
    exact ⟨u, by rw [List.getElem?_set_ne hj]; exact q, w'⟩
variable {α β α' β' : Type} {RA : List Addr → Hp → α → β → Prop} {RB : List Addr → Hp → α' → β' → Prop}
theorem Wp.fut {r : Res α} {Q : β → Hp → Prop} {E : XK} (f : Fut K ρ H ρ' H') (w : Wp K G RA ρ H r Q E) : Wp K G RA ρ' H' r Q E := by
  cases r with
  | ok a h1 => exact fun ρ2 H2 b f2 => w ρ2 H2 b (f.trans f2)
  | exc C fs h1 => exact fun ρ2 H2 c d e f2 => w ρ2 H2 c d e (f.trans f2)
  | bad => exact w
theorem Wp.bind {r : Res α} {f : α → MH → Res α'} {Q1 : β → Hp → Prop} {Q : β' → Hp → Prop} {E : XK} (w : Wp K G RB ρ H (r.bind f) Q E)
    (k : ∀ (a : α) (h1 : MH) (ρ1 : List Addr) (H1 : Hp) (b : β), Fut K ρ H ρ1 H1 → Rel K G ρ1 h1 H1 → RA ρ1 H1 a b → Wp K G RB ρ1 H1 (f a h1) Q E → Q1 b H1) : Wp K G RA ρ H r Q1 E := by
  cases r with
  | ok a h1 => exact fun ρ1 H1 b f1 r1 q1 => k a h1 ρ1 H1 b f1 r1 q1 (Wp.fut f1 w)
  | exc C fs h1 => exact w
  | bad => exact w
theorem Wp.ret {a : α} {b : β} {Q : β → Hp → Prop} {E : XK} (w : Wp K G RA ρ H (.ok a h) Q E) (r : Rel K G ρ h H) (q : RA ρ H a b) : Q b H := w ρ H b .refl r q
end

section
variable {X : Cx} {G : Nat → Option Addr} {W : WX} {e a b c : Expr} {es : List Expr} {pos : Pos}
theorem PE.imp {t t' : TE} (p : PE X e t) (k : ∀ σ H Q, t' σ H Q → t σ H Q) : PE X e t' := ⟨fun pins s σ H Q I q => p.run pins s σ H Q I (k _ _ _ q)⟩
theorem PT.imp {t t' : TT} (p : PT X e t) (k : ∀ σ H Q, t' σ H Q → t σ H Q) : PT X e t' := ⟨fun pins s σ H Q I q => p.run pins s σ H Q I (k _ _ _ q)⟩
theorem PW.imp {t t' : TT} (p : PW X e t) (k : ∀ σ H Q, t' σ H Q → t σ H Q) : PW X e t' := ⟨fun wh pins s σ H Q I q => p.run wh pins s σ H Q I (k _ _ _ q)⟩
theorem PA.imp {t t' : TA} (p : PA X es t) (k : ∀ σ H Q, t' σ H Q → t σ H Q) : PA X es t' := ⟨fun ps pins s σ H Q I q => p.run ps pins s σ H Q I (k _ _ _ q)⟩

/-! ### names, constants -/
def eVar (i : Nat) : Mx := fun env h => match env[i]? with
  | some (some d) => .ok d h
  | _ => .bad
def eC (d : D) : Mx := fun _ h => .ok d h
theorem me_var (i : Nat) {x : Str} (hN : X.N[i]? = some x := by rfl) (hv : Vis X.env.scope x := by first | exact Or.inl rfl | exact Or.inr (Or.inl rfl) | exact Or.inr (Or.inr rfl)) (hd : (x == ("__debug__" : Str)) = false := by decide)
    (hcd : (x == ("__classdict__" : Str)) = false := by decide) : PE X (.Name x pos) (RdE X.K G W (eVar i)) := by
  refine PE.imp (pe_var hN hv hd hcd) fun σ H Q q => ?_
  obtain ⟨ρ, h, env, r, re, w⟩ := q
  unfold eVar at w
  split at w
  · rename_i d ed
    obtain ⟨v, e1, e2⟩ := re.at_ i d ed
    exact ⟨v, e1, w.ret r e2⟩
  · exact w.elim
theorem me_of_c {t : TE} {d : D} {v : V} (p : PE X e t) (ht : ∀ σ H Q, Q v H → t σ H Q) (hr : ∀ ρ H, RD X.K G ρ H d v) : PE X e (RdE X.K G W (eC d)) :=
  PE.imp p fun σ H Q ⟨ρ, h, env, r, re, w⟩ => ht σ H Q (w.ret r (hr ρ H))
theorem me_int {i j} : PE X (.Constant (.int i) j pos) (RdE X.K G W (eC (.int i))) := me_of_c (v := .int i) pe_int (fun _ _ _ q => q) fun _ _ => .int i
theorem me_bl {i j} : PE X (.Constant (.bool i) j pos) (RdE X.K G W (eC (.bl i))) := me_of_c (v := .bl i) pe_bl (fun _ _ _ q => q) fun _ _ => .bl i
theorem me_non {j} : PE X (.Constant .none j pos) (RdE X.K G W (eC .non)) := me_of_c (v := .non) pe_non (fun _ _ _ q => q) fun _ _ => .non
theorem me_str {x j} : PE X (.Constant (.str x) j pos) (RdE X.K G W (eC (.str x))) := me_of_c (v := .str x) pe_str (fun _ _ _ q => q) fun _ _ => .str x
/-- a module's own number -/
theorem me_globI {x : Str} {i : Int} {u : Value} (hg : Gl X x) (hm : X.mg x = some u) (hr : RelV (.int i) u) (hd : (x == ("__debug__" : Str)) = false := by decide) : PE X (.Name x pos) (RdE X.K G W (eC (.int i))) :=
  me_of_c (v := .int i) (pe_glob hg hm hr hd) (fun _ _ _ q => q) fun _ _ => .int i
/-- a built-in class as a value -/
theorem me_ty {x : Str} (T : Ty) (hg : Gl X x) (hm : X.mg x = none) (hv : bootBuiltins x = some (.type T.name)) (hn : x ≠ "__name__" := by decide) (hd : (x == ("__debug__" : Str)) = false := by decide) : PE X (.Name x pos) (RdE X.K G W (eC (.ty T))) :=
  me_of_c (v := .ty T.name) (pe_bltn (v := .ty T.name) hg hm hv (show RelV (.ty T.name) (.type T.name) from rfl) hn hd) (fun _ _ _ q => q) fun _ _ => .ty T
/-- a class or a def of the module as a value -/
theorem me_stat {x : Str} {n : Nat} {c : Addr} (hg : Gl X x) (hm : X.mg x = some (.ref c)) (hG : G n = some c) (hd : (x == ("__debug__" : Str)) = false := by decide) : PE X (.Name x pos) (RdE X.K G W (eC (.stat n))) :=
  me_of_c (v := .ref c) (pe_glob (v := .ref c) hg hm (show RelV (.ref c) (.ref c) from rfl) hd) (fun _ _ _ q => q) fun _ _ => .stat hG

/-! ### operators -/
def OpOK (X : Cx) (G : Nat → Option Addr) (F : Value → Value → Sem Value) (f : D → D → MH → Option (D × MH)) : Prop := OpR X F (rOp X.K G f)
def eOp (f : D → D → MH → Option (D × MH)) (ma mb : Mx) : Mx := fun env h => (ma env h).bind fun x h1 => (mb env h1).bind fun y h2 => ofOpt (f x y h2)
theorem Wp.opt {K : PySem.W.Frag} {ρ : List Addr} {H : Hp} {r : Option (D × MH)} {Q : VK} {E : XK} (w : Wp K G (RD K G) ρ H (ofOpt r) Q E) :
    ∃ v h', r = some (v, h') ∧ ∀ (ρ' : List Addr) (H' : Hp) (v' : V), Fut K ρ H ρ' H' → Rel K G ρ' h' H' → RD K G ρ' H' v v' → Q v' H' := by
  cases r with
  | none => exact w.elim
  | some p => exact ⟨p.1, p.2, rfl, w⟩
theorem two_op {f : D → D → MH → Option (D × MH)} {ma mb : Mx} {σ : L2.St} {H : Hp} {Q : VK} (q : RdE X.K G W (eOp f ma mb) σ H Q) : tOp (rOp X.K G f) (RdE X.K G W ma) (RdE X.K G W mb) σ H Q := by
  obtain ⟨ρ, h, env, r, re, w⟩ := q
  refine ⟨ρ, h, env, r, re, Wp.bind w fun x h1 ρ1 H1 vx f1 r1 q1 w1 => ?_⟩
  refine ⟨ρ1, h1, env, r1, re.fut f1, Wp.bind w1 fun y h2 ρ2 H2 vy f2 r2 q2 w2 => ?_⟩
  obtain ⟨v, h', e, k⟩ := w2.opt
  exact ⟨ρ2, h2, x, y, v, h', r2, q1.fut f2, q2, e, k⟩
theorem me_op {op : Operator} {f : D → D → MH → Option (D × MH)} {ma mb : Mx} (ho : OpOK X G (binaryOp op) f) (ha : PE X a (RdE X.K G W ma)) (hb : PE X b (RdE X.K G W mb)) : PE X (.BinOp a op b pos) (RdE X.K G W (eOp f ma mb)) :=
  PE.imp (pe_op ho ha hb) fun _ _ _ q => two_op q
theorem me_cmp {op : CmpOp} {f : D → D → MH → Option (D × MH)} {ma mb : Mx} (ho : OpOK X G (compareOp op) f) (ha : PE X a (RdE X.K G W ma)) (hb : PE X b (RdE X.K G W mb)) (hm : behindInMarks op b = false := by first | exact nomark _ (by decide) (by decide) | rfl) :
    PE X (.Compare a [op] [b] pos) (RdE X.K G W (eOp f ma mb)) := PE.imp (pe_cmpR ho ha hb hm) fun _ _ _ q => two_op q
/-- a < b < c -/
def isB (x : D) : Option Bool := match x with
  | .bl k => some k
  | _ => none
def eChain (f f' : D → D → MH → Option (D × MH)) (ma mb mc : Mx) : Mx := fun env h => (ma env h).bind fun x h1 => (mb env h1).bind fun y h2 => (ofOpt (f x y h2)).bind fun z h3 =>
  match isB z with
  | some true => (mc env h3).bind fun u h4 => ofOpt (f' y u h4)
  | some false => .ok (.bl false) h3
  | none => .bad
theorem rd_isB {K : PySem.W.Frag} {ρ : List Addr} {H : Hp} {z : D} {v : V} {k : Bool} (r : RD K G ρ H z v) (e : isB z = some k) : z = .bl k ∧ v = .bl k := by
  cases z with
  | bl j => cases e; cases r; exact ⟨rfl, rfl⟩
  | _ => cases e
theorem me_chain {op op' : CmpOp} {f f' : D → D → MH → Option (D × MH)} {ma mb mc : Mx} (ho : OpOK X G (compareOp op) f) (ho' : OpOK X G (compareOp op') f') (ha : PE X a (RdE X.K G W ma)) (hb : PE X b (RdE X.K G W mb)) (hc : PE X c (RdE X.K G W mc)) (hm : lastMarks [op, op'] [b, c] = false := by with_unfolding_all rfl) : PE X (.Compare a [op, op'] [b, c] pos) (RdE X.K G W (eChain f f' ma mb mc)) := by
  refine PE.imp (pe_chain ho ho' ha hb hc hm) fun σ H Q q => ?_
  obtain ⟨ρ, h, env, r, re, w⟩ := q
  refine ⟨ρ, h, env, r, re, Wp.bind w fun x h1 ρ1 H1 vx f1 r1 q1 w1 => ?_⟩
  refine ⟨ρ1, h1, env, r1, re.fut f1, Wp.bind w1 fun y h2 ρ2 H2 vy f2 r2 q2 w2 => ?_⟩
  obtain ⟨v, h3, e, k⟩ := (Wp.bind (RA := RD X.K G) (Q1 := fun _ _ => True) w2 fun _ _ _ _ _ _ _ _ _ => trivial).opt
  rw [e] at w2
  refine ⟨ρ2, h2, x, y, v, h3, r2, q1.fut f2, q2, e, fun ρ3 H3 v3 f3 r3 q3 => ?_⟩
  have w3 := Wp.fut f3 w2
  simp only [ofOpt_some, Res.bind_ok] at w3
  cases ez : isB v with
  | none => rw [ez] at w3; exact w3.elim
  | some kb =>
    rw [ez] at w3
    obtain ⟨rfl, rfl⟩ := rd_isB q3 ez
    refine ⟨kb, rfl, ?_⟩
    cases kb with
    | false => exact w3.ret r3 (.bl false)
    | true =>
      refine ⟨ρ3, h3, env, r3, (re.fut f1).fut (f2.trans f3), Wp.bind w3 fun u h4 ρ4 H4 vu f4 r4 q4 w4 => ?_⟩
      obtain ⟨v5, h5, e5, k5⟩ := w4.opt
      exact ⟨ρ4, h4, y, u, v5, h5, r4, (q2.fut f3).fut f4, q4, e5, k5⟩

/-! ### truth, tests -/
def truD (h : MH) : D → Option Bool
  | .non => some false
  | .bl b => some b
  | .int i => some (i != 0)
  | .str x => if x.length ≤ sizeLine then some ((x.length : Int) != 0) else none
  | .tup xs => some (!xs.isEmpty)
  | .ref i => (h.seq i).map fun xs => !xs.isEmpty
  | _ => none
theorem RDs.isEmpty {K : PySem.W.Frag} {ρ : List Addr} {H : Hp} {ds : List D} {xs : List V} (r : RDs K G ρ H ds xs) : ds.isEmpty = xs.isEmpty := by cases r <;> rfl
theorem truD_ok {K : PySem.W.Frag} {ρ : List Addr} {H : Hp} {h : MH} {d : D} {x : V} {k : Bool} (R : Rel K G ρ h H) (r : RD K G ρ H d x) (e : truD h d = some k) : TruV K x H k := by
  cases r with
  | non => cases e; rfl
  | bl b => cases e; rfl
  | int i => cases e; rfl
  | str y =>
    simp only [truD] at e
    split at e
    · cases e; exact ⟨by assumption, rfl⟩
    · cases e
  | tup hs hr => cases e; exact .inr (.inl ⟨_, hs, by rw [hr.isEmpty]⟩)
  | @ref i a ha =>
    simp only [truD, Option.map_eq_some_iff] at e
    obtain ⟨ds, e1, e2⟩ := e
    obtain ⟨a', ys, q1, q2, q3⟩ := R.seq e1
    rw [ha] at q1; cases q1
    exact .inl ⟨ys, q2, by rw [← e2, q3.isEmpty]⟩
  | ty n => cases e
  | stat e' => cases e
  | rep d => cases e
def tTruth (m : Mx) : Mt := fun env h => (m env h).bind fun x h1 => match truD h1 x with
  | some k => .ok k h1
  | none => .bad
def tBl (m : Mx) : Mt := fun env h => (m env h).bind fun x h1 => match isB x with
  | some k => .ok k h1
  | none => .bad
def tNotM (t : Mt) : Mt := fun env h => (t env h).bind fun k h1 => .ok (!k) h1
def tAndM (a b : Mt) : Mt := fun env h => (a env h).bind fun k h1 => match k with
  | true => b env h1
  | false => .ok false h1
def tOrM (a b : Mt) : Mt := fun env h => (a env h).bind fun k h1 => match k with
  | true => .ok true h1
  | false => b env h1
theorem mt_truth {m : Mx} (ha : PE X a (RdE X.K G W m)) (he : ∀ whole, isTrue a X.env whole = (do let v ← whole; standAt a.pos; holding [v] (truthy v)) := by intro _; rfl) : PT X a (RdT X.K G W (tTruth m)) := by
  refine PT.imp (pt_truth ha he) fun σ H Q q => ?_
  obtain ⟨ρ, h, env, r, re, w⟩ := q
  refine ⟨ρ, h, env, r, re, Wp.bind w fun x h1 ρ1 H1 vx f1 r1 q1 w1 => ?_⟩
  cases e : truD h1 x with
  | none => rw [e] at w1; exact w1.elim
  | some k => rw [e] at w1; exact ⟨k, truD_ok r1 q1 e, w1.ret r1 rfl⟩
theorem to_bl {m : Mx} {σ : L2.St} {H : Hp} {Q : Bool → Hp → Prop} (q : RdT X.K G W (tBl m) σ H Q) : tTest (RdE X.K G W m) σ H Q := by
  obtain ⟨ρ, h, env, r, re, w⟩ := q
  refine ⟨ρ, h, env, r, re, Wp.bind w fun x h1 ρ1 H1 vx f1 r1 q1 w1 => ?_⟩
  cases e : isB x with
  | none => rw [e] at w1; exact w1.elim
  | some k =>
    rw [e] at w1
    obtain ⟨rfl, rfl⟩ := rd_isB q1 e
    exact ⟨k, rfl, w1.ret r1 rfl⟩
theorem mt_cmp {op : CmpOp} {f : D → D → MH → Option (D × MH)} {ma mb : Mx} (ho : OpOK X G (compareOp op) f) (ha : PE X a (RdE X.K G W ma)) (hb : PE X b (RdE X.K G W mb)) (hm : behindInMarks op b = false := by first | exact nomark _ (by decide) (by decide) | rfl) :
    PT X (.Compare a [op] [b] pos) (RdT X.K G W (tBl (eOp f ma mb))) := by
  refine PT.imp (pt_cmpR ho ha hb hm) fun σ H Q q => ?_
  obtain ⟨ρ, h, env, r, re, w⟩ := to_bl q
  exact two_op ⟨ρ, h, env, r, re, w⟩
theorem ch_rd {f f' : D → D → MH → Option (D × MH)} {ma mb mc : Mx} {σ : L2.St} {H : Hp} {Q : VK} (q : RdE X.K G W (eChain f f' ma mb mc) σ H Q) : tChain (rOp X.K G f) (rOp X.K G f') (RdE X.K G W ma) (RdE X.K G W mb) (RdE X.K G W mc) σ H Q := by
  obtain ⟨ρ, h, env, r, re, w⟩ := q
  refine ⟨ρ, h, env, r, re, Wp.bind w fun x h1 ρ1 H1 vx f1 r1 q1 w1 => ?_⟩
  refine ⟨ρ1, h1, env, r1, re.fut f1, Wp.bind w1 fun y h2 ρ2 H2 vy f2 r2 q2 w2 => ?_⟩
  obtain ⟨v, h3, e, k⟩ := (Wp.bind (RA := RD X.K G) (Q1 := fun _ _ => True) w2 fun _ _ _ _ _ _ _ _ _ => trivial).opt
  rw [e] at w2
  refine ⟨ρ2, h2, x, y, v, h3, r2, q1.fut f2, q2, e, fun ρ3 H3 v3 f3 r3 q3 => ?_⟩
  have w3 := Wp.fut f3 w2
  simp only [ofOpt_some, Res.bind_ok] at w3
  cases ez : isB v with
  | none => rw [ez] at w3; exact w3.elim
  | some kb =>
    rw [ez] at w3
    obtain ⟨rfl, rfl⟩ := rd_isB q3 ez
    refine ⟨kb, rfl, ?_⟩
    cases kb with
    | false => exact w3.ret r3 (.bl false)
    | true =>
      refine ⟨ρ3, h3, env, r3, (re.fut f1).fut (f2.trans f3), Wp.bind w3 fun u h4 ρ4 H4 vu f4 r4 q4 w4 => ?_⟩
      obtain ⟨v5, h5, e5, k5⟩ := w4.opt
      exact ⟨ρ4, h4, y, u, v5, h5, r4, (q2.fut f3).fut f4, q4, e5, k5⟩
theorem mt_chain {op op' : CmpOp} {f f' : D → D → MH → Option (D × MH)} {ma mb mc : Mx} (ho : OpOK X G (compareOp op) f) (ho' : OpOK X G (compareOp op') f') (ha : PE X a (RdE X.K G W ma)) (hb : PE X b (RdE X.K G W mb)) (hc : PE X c (RdE X.K G W mc))
    (hm : lastMarks [op, op'] [b, c] = false := by with_unfolding_all rfl) : PT X (.Compare a [op, op'] [b, c] pos) (RdT X.K G W (tBl (eChain f f' ma mb mc))) := by
  refine PT.imp (pt_chain ho ho' ha hb hc hm) fun σ H Q q => ?_
  obtain ⟨ρ, h, env, r, re, w⟩ := to_bl q
  exact ch_rd ⟨ρ, h, env, r, re, w⟩
theorem mt_not {t : Mt} (ha : PT X a (RdT X.K G W t)) : PT X (.UnaryOp .Not a pos) (RdT X.K G W (tNotM t)) := by
  refine PT.imp (pt_not ha) fun σ H Q q => ?_
  obtain ⟨ρ, h, env, r, re, w⟩ := q
  exact ⟨ρ, h, env, r, re, Wp.bind w fun x h1 ρ1 H1 vx f1 r1 q1 w1 => q1 ▸ w1.ret r1 rfl⟩
section
variable {rest : List Expr}
theorem mw_and1 {t : Mt} (ha : PT X a (RdT X.K G W t)) : PW X (.BoolOp .And [a] pos) (RdT X.K G W t) := pw_and1 ha
theorem mw_or1 {t : Mt} (ha : PT X a (RdT X.K G W t)) : PW X (.BoolOp .Or [a] pos) (RdT X.K G W t) := pw_or1 ha
theorem mw_and {t u : Mt} (ha : PT X a (RdT X.K G W t)) (hb : PW X (.BoolOp .And (b :: rest) pos) (RdT X.K G W u)) : PW X (.BoolOp .And (a :: b :: rest) pos) (RdT X.K G W (tAndM t u)) := by
  refine PW.imp (pw_and ha hb) fun σ H Q q => ?_
  obtain ⟨ρ, h, env, r, re, w⟩ := q
  refine ⟨ρ, h, env, r, re, Wp.bind w fun x h1 ρ1 H1 k f1 r1 q1 w1 => ?_⟩
  subst q1
  cases x with
  | true => exact ⟨ρ1, h1, env, r1, re.fut f1, w1⟩
  | false => exact w1.ret r1 rfl
theorem mw_or {t u : Mt} (ha : PT X a (RdT X.K G W t)) (hb : PW X (.BoolOp .Or (b :: rest) pos) (RdT X.K G W u)) : PW X (.BoolOp .Or (a :: b :: rest) pos) (RdT X.K G W (tOrM t u)) := by
  refine PW.imp (pw_or ha hb) fun σ H Q q => ?_
  obtain ⟨ρ, h, env, r, re, w⟩ := q
  refine ⟨ρ, h, env, r, re, Wp.bind w fun x h1 ρ1 H1 k f1 r1 q1 w1 => ?_⟩
  subst q1
  cases x with
  | false => exact ⟨ρ1, h1, env, r1, re.fut f1, w1⟩
  | true => exact w1.ret r1 rfl
/-! as values -/
def eAndM (a b : Mx) : Mx := fun env h => (a env h).bind fun x h1 => match truD h1 x with
  | some true => b env h1
  | some false => .ok x h1
  | none => .bad
def eOrM (a b : Mx) : Mx := fun env h => (a env h).bind fun x h1 => match truD h1 x with
  | some true => .ok x h1
  | some false => b env h1
  | none => .bad
def eNotM (a : Mx) : Mx := fun env h => (a env h).bind fun x h1 => match truD h1 x with
  | some k => .ok (.bl (!k)) h1
  | none => .bad
def eIfM (t : Mt) (a b : Mx) : Mx := fun env h => (t env h).bind fun k h1 => match k with
  | true => a env h1
  | false => b env h1
theorem me_one {op} {m : Mx} (ha : PE X a (RdE X.K G W m)) : PE X (.BoolOp op [a] pos) (RdE X.K G W m) := pe_one ha
theorem me_and {m n : Mx} (ha : PE X a (RdE X.K G W m)) (hb : PE X (.BoolOp .And (b :: rest) pos) (RdE X.K G W n)) : PE X (.BoolOp .And (a :: b :: rest) pos) (RdE X.K G W (eAndM m n)) := by
  refine PE.imp (pe_andT ha hb) fun σ H Q q => ?_
  obtain ⟨ρ, h, env, r, re, w⟩ := q
  refine ⟨ρ, h, env, r, re, Wp.bind w fun x h1 ρ1 H1 vx f1 r1 q1 w1 => ?_⟩
  cases e : truD h1 x with
  | none => rw [e] at w1; exact w1.elim
  | some k =>
    rw [e] at w1
    refine ⟨k, truD_ok r1 q1 e, ?_⟩
    cases k with
    | true => exact ⟨ρ1, h1, env, r1, re.fut f1, w1⟩
    | false => exact w1.ret r1 q1
theorem me_or {m n : Mx} (ha : PE X a (RdE X.K G W m)) (hb : PE X (.BoolOp .Or (b :: rest) pos) (RdE X.K G W n)) : PE X (.BoolOp .Or (a :: b :: rest) pos) (RdE X.K G W (eOrM m n)) := by
  refine PE.imp (pe_orT ha hb) fun σ H Q q => ?_
  obtain ⟨ρ, h, env, r, re, w⟩ := q
  refine ⟨ρ, h, env, r, re, Wp.bind w fun x h1 ρ1 H1 vx f1 r1 q1 w1 => ?_⟩
  cases e : truD h1 x with
  | none => rw [e] at w1; exact w1.elim
  | some k =>
    rw [e] at w1
    refine ⟨k, truD_ok r1 q1 e, ?_⟩
    cases k with
    | true => exact w1.ret r1 q1
    | false => exact ⟨ρ1, h1, env, r1, re.fut f1, w1⟩
theorem me_not {m : Mx} (ha : PE X a (RdE X.K G W m)) : PE X (.UnaryOp .Not a pos) (RdE X.K G W (eNotM m)) := by
  refine PE.imp (pe_notT ha) fun σ H Q q => ?_
  obtain ⟨ρ, h, env, r, re, w⟩ := q
  refine ⟨ρ, h, env, r, re, Wp.bind w fun x h1 ρ1 H1 vx f1 r1 q1 w1 => ?_⟩
  cases e : truD h1 x with
  | none => rw [e] at w1; exact w1.elim
  | some k => rw [e] at w1; exact ⟨k, truD_ok r1 q1 e, w1.ret r1 (.bl _)⟩
theorem me_if {t : Mt} {m n : Mx} (hc : PT X c (RdT X.K G W t)) (ha : PE X a (RdE X.K G W m)) (hb : PE X b (RdE X.K G W n)) : PE X (.IfExp c a b pos) (RdE X.K G W (eIfM t m n)) := by
  refine PE.imp (pe_ifExp hc ha hb) fun σ H Q q => ?_
  obtain ⟨ρ, h, env, r, re, w⟩ := q
  refine ⟨ρ, h, env, r, re, Wp.bind w fun x h1 ρ1 H1 k f1 r1 q1 w1 => ?_⟩
  subst q1
  cases x with
  | true => exact ⟨ρ1, h1, env, r1, re.fut f1, w1⟩
  | false => exact ⟨ρ1, h1, env, r1, re.fut f1, w1⟩
end

/-! ### argument lists, displays, calls -/
def aNil : Ma := fun _ h => .ok [] h
def aCons (m : Mx) (ms : Ma) : Ma := fun env h => (m env h).bind fun x h1 => (ms env h1).bind fun xs h2 => .ok (x :: xs) h2
theorem ma_nil : PA X [] (RdA X.K G W aNil) := PA.imp pa_nil fun σ H Q ⟨ρ, h, env, r, re, w⟩ => w.ret r .nil
theorem ma_cons {m : Mx} {ms : Ma} (ha : PE X e (RdE X.K G W m)) (hr : PA X es (RdA X.K G W ms)) (hs : starEach (e :: es) X.env = (false, eval e X.env) :: starEach es X.env := by rfl) : PA X (e :: es) (RdA X.K G W (aCons m ms)) := by
  refine PA.imp (pa_cons ha hr hs) fun σ H Q q => ?_
  obtain ⟨ρ, h, env, r, re, w⟩ := q
  refine ⟨ρ, h, env, r, re, Wp.bind w fun x h1 ρ1 H1 vx f1 r1 q1 w1 => ?_⟩
  refine ⟨ρ1, h1, env, r1, re.fut f1, Wp.bind w1 fun y h2 ρ2 H2 vy f2 r2 q2 w2 => ?_⟩
  exact w2.ret r2 (.cons (q1.fut f2) q2)
/-- a new tuple -/
def mkTup (xs : List D) (h : MH) : Option (D × MH) := if xs.length ≤ sizeLine then some (.tup xs, h) else none
/-- a new list -/
def mkLst (xs : List D) (h : MH) : Option (D × MH) := if xs.length ≤ sizeLine then some (.ref h.n, h.add (.lst xs)) else none
def eTup (m : Ma) : Mx := fun env h => (m env h).bind fun xs h1 => ofOpt (mkTup xs h1)
def eLst (m : Ma) : Mx := fun env h => (m env h).bind fun xs h1 => ofOpt (mkLst xs h1)
theorem new_tup {K : PySem.W.Frag} {ρ : List Addr} {h : MH} {H : Hp} {p : Addr} {ds : List D} {xs : List V} (r : Rel K G ρ h H) (n : H p = none) (q : RDs K G ρ H ds xs) :
    Fut K ρ H ρ (upd H p (.tup xs)) ∧ Rel K G ρ h (upd H p (.tup xs)) ∧ RD K G ρ (upd H p (.tup xs)) (.tup ds) (.ref p) := by
  have f : Fut K ρ H ρ (upd H p (.tup xs)) := Fut.updN n
  exact ⟨f, r.laid n, .tup (.of upd_same) (q.fut f)⟩
theorem new_lst {K : PySem.W.Frag} {ρ : List Addr} {h : MH} {H : Hp} {p : Addr} {ds : List D} {xs : List V} (r : Rel K G ρ h H) (n : H p = none) (q : RDs K G ρ H ds xs) :
    Fut K ρ H (ρ ++ [p]) (upd H p (.lst xs)) ∧ Rel K G (ρ ++ [p]) (h.add (.lst ds)) (upd H p (.lst xs)) ∧ RD K G (ρ ++ [p]) (upd H p (.lst xs)) (.ref h.n) (.ref p) := by
  have f : Fut K ρ H (ρ ++ [p]) (upd H p (.lst xs)) := Fut.upd n
  exact ⟨f, r.new n rfl ⟨xs, upd_same, q.fut f⟩, .ref (by rw [← r.len]; simp)⟩
theorem me_tup {x1} {m : Ma} (ha : PA X es (RdA X.K G W m)) : PE X (.Tuple es x1 pos) (RdE X.K G W (eTup m)) := by
  refine PE.imp (pe_tup ha) fun σ H Q q => ?_
  obtain ⟨ρ, h, env, r, re, w⟩ := q
  refine ⟨ρ, h, env, r, re, Wp.bind w fun xs h1 ρ1 H1 vs f1 r1 q1 w1 => ?_⟩
  unfold mkTup at w1
  split at w1
  · refine ⟨by rw [← q1.length]; assumption, fun p n => ?_⟩
    obtain ⟨f2, r2, q2⟩ := new_tup r1 n q1
    exact w1 _ _ _ f2 r2 q2
  · exact w1.elim
theorem me_lst {m : Ma} (ha : PA X es (RdA X.K G W m)) : PE X (.List es pos) (RdE X.K G W (eLst m)) := by
  refine PE.imp (pe_lst ha) fun σ H Q q => ?_
  obtain ⟨ρ, h, env, r, re, w⟩ := q
  refine ⟨ρ, h, env, r, re, Wp.bind w fun xs h1 ρ1 H1 vs f1 r1 q1 w1 => ?_⟩
  unfold mkLst at w1
  split at w1
  · refine ⟨by rw [← q1.length]; assumption, fun p n => ?_⟩
    obtain ⟨f2, r2, q2⟩ := new_lst r1 n q1
    exact w1 _ _ _ f2 r2 q2
  · exact w1.elim
/-- a def's promise: what its function here yields -/
abbrev Fn := List D → MH → Res D
def spM (K : PySem.W.Frag) (G : Nat → Option Addr) (n : Nat) (f : Fn) : Sp := fun vs H Q E => ∃ (ρ : List Addr) (h : MH) (ds : List D), Rel K G ρ h H ∧ RDs K G ρ H ds vs ∧ ds.length = n ∧ Wp K G (RD K G) ρ H (f ds h) Q E
def eCall (f : Fn) (ms : Ma) : Mx := fun env h => (ms env h).bind fun ds h1 => f ds h1
section
variable {k : Nat} {f : Addr} {fd : FuncData} {ps : List Str} {x : Str} {p : Pos} {fm : Fn} {dvs : List V} {dds : List D} {ds : List Value} {n : Nat}
/-- the defaults -/
def dflt (f : Fn) (dds : List D) : Fn := fun xs h => f (xs ++ dds) h
end
theorem aCons_len {m : Mx} {ms : Ma} {n : Nat} (hl : ∀ env h xs h1, ms env h = .ok xs h1 → xs.length = n) : ∀ env h xs h1, aCons m ms env h = .ok xs h1 → xs.length = n + 1 := by
  intro env h xs h1 e
  unfold aCons at e
  cases e1 : m env h with
  | bad => rw [e1] at e; cases e
  | exc C fs h1 => rw [e1] at e; cases e
  | ok x h2 =>
    rw [e1, Res.bind_ok] at e
    cases e2 : ms env h2 with
    | bad => rw [e2] at e; cases e
    | exc C fs h1 => rw [e2] at e; cases e
    | ok ys h3 =>
      rw [e2, Res.bind_ok] at e
      cases e
      rw [List.length_cons, hl _ _ _ _ e2]
theorem aNil_len : ∀ env h xs h1, aNil env h = .ok xs h1 → xs.length = 0 := by
  intro env h xs h1 e
  cases e
  rfl
end
end MM

set_option Elab.async false
set_option linter.all false
set_option maxRecDepth 100000
set_option maxHeartbeats 4000000
set_option autoImplicit false
/-! operators and built-in functions on values, and that the text's do the same -/
namespace MM
open PySem PySem.Spec PyProof.Rows L2

/-! ### a value as plain data -/
def snaps (g : D → Option PyData) : List D → Option (List PyData)
  | [] => some []
  | d :: ds => match g d, snaps g ds with
    | some x, some xs => some (x :: xs)
    | _, _ => none
def snap (h : MH) : Nat → D → Option PyData
  | _, .non => some .none
  | _, .bl b => some (.bool b)
  | _, .int i => some (.int i)
  | _, .str x => some (.str x)
  | _, .rep d => some (.str d.shown)
  | f + 1, .tup xs => (snaps (snap h f) xs).map .tuple
  | f + 1, .ref i => match h.seq i with
    | some xs => (snaps (snap h f) xs).map .list
    | none => none
  | _, _ => none
section
variable {K : PySem.W.Frag} {G : Nat → Option Addr} {ρ : List Addr} {H : Hp} {h : MH}
theorem snaps_ok {g : D → Option PyData} (hg : ∀ d v p, RD K G ρ H d v → g d = some p → Dp K H v p) : ∀ (ds : List D) (vs : List V) (ps : List PyData), RDs K G ρ H ds vs → snaps g ds = some ps → DpAll K H vs ps
  | [], _, ps, .nil, e => by cases e; exact .nil
  | d :: ds, _, ps, .cons a b, e => by
    unfold snaps at e
    cases e1 : g d with
    | none => rw [e1] at e; cases e
    | some x =>
      cases e2 : snaps g ds with
      | none => rw [e1, e2] at e; cases e
      | some xs =>
        rw [e1, e2] at e
        cases e
        exact .cons (hg _ _ _ a e1) (snaps_ok hg ds _ xs b e2)
theorem snap_ok (R : Rel K G ρ h H) : ∀ (f : Nat) (d : D) (v : V) (p : PyData), RD K G ρ H d v → snap h f d = some p → Dp K H v p := by
  intro f
  induction f with
  | zero =>
    intro d v p r e
    cases r with
    | non => cases e; exact .non
    | bl b => cases e; exact .bl b
    | int b => cases e; exact .int b
    | str b => cases e; exact .str b
    | rep d => cases e; exact .str _
    | tup a b => cases e
    | ref a => cases e
    | ty n => cases e
    | stat n => cases e
  | succ f ih =>
    intro d v p r e
    cases r with
    | non => cases e; exact .non
    | bl b => cases e; exact .bl b
    | int b => cases e; exact .int b
    | str b => cases e; exact .str b
    | rep d => cases e; exact .str _
    | tup a b =>
      simp only [snap, Option.map_eq_some_iff] at e
      obtain ⟨ps, e1, rfl⟩ := e
      exact .tup a (snaps_ok ih _ _ _ b e1)
    | @ref i a ha =>
      simp only [snap] at e
      cases es : h.seq i with
      | none => rw [es] at e; cases e
      | some xs =>
        rw [es] at e
        simp only [Option.map_eq_some_iff] at e
        obtain ⟨ps, e1, rfl⟩ := e
        obtain ⟨a', ys, q1, q2, q3⟩ := R.seq es
        rw [ha] at q1; cases q1
        exact .lst q2 (snaps_ok ih _ _ _ q3 e1)
    | ty n => cases e
    | stat n => cases e
end
def deep : Nat := 40

/-! ### ints -/
def addD (a b : D) (h : MH) : Option (D × MH) := match a, b with
  | .int i, .int j => some (.int (i + j), h)
  | .tup xs, .tup ys => if xs.length + ys.length ≤ sizeLine then some (.tup (xs ++ ys), h) else none
  | .ref i, .ref j => match h.get i, h.get j with
    | some (.lst xs), some (.lst ys) => if xs.length + ys.length ≤ sizeLine then some (.ref h.n, h.add (.lst (xs ++ ys))) else none
    | _, _ => none
  | .str x, .str y => if x.length + y.length ≤ sizeLine then some (.str (x ++ y), h) else none
  | _, _ => none
def subD (a b : D) (h : MH) : Option (D × MH) := match a, b with
  | .int i, .int j => some (.int (i - j), h)
  | _, _ => none
def small64 (i : Int) : Bool := Nat.ble (i.natAbs + 1) 18446744073709551616
def mulD (a b : D) (h : MH) : Option (D × MH) := match a, b with
  | .int i, .int j => if small64 i || small64 j then some (.int (i * j), h) else none
  | .tup xs, .int k => if xs ≠ [] ∧ 2 ≤ k ∧ k ≤ 1000 ∧ xs.length ≤ 1000 then some (.tup (List.replicate k.toNat xs).flatten, h) else none
  | .ref i, .int k => match h.get i with
    | some (.lst xs) => if -(2 ^ 63) ≤ k ∧ k < 2 ^ 63 ∧ xs.length * k.toNat ≤ sizeLine then some (.ref h.n, h.add (.lst (List.replicate k.toNat xs).flatten)) else none
    | _ => none
  | _, _ => none
def fdivD (a b : D) (h : MH) : Option (D × MH) := match a, b with
  | .int i, .int j => if 0 < j ∧ j < 1073741824 then some (.int (i / j), h) else none
  | _, _ => none
def modD (a b : D) (h : MH) : Option (D × MH) := match a, b with
  | .int i, .int j => if 0 < j then some (.int (i % j), h) else none
  | _, _ => none
def powD (a b : D) (h : MH) : Option (D × MH) := match a, b with
  | .int i, .int j => if 0 ≤ j ∧ j ≤ 64 ∧ small64 i = true then some (.int (i ^ j.toNat), h) else none
  | _, _ => none
theorem small64_ok {i : Int} (e : small64 i = true) : -(2 ^ 64) < i ∧ i < 2 ^ 64 := by
  have q := Nat.le_of_ble_eq_true e
  omega
section
variable {X : Cx} {G : Nat → Option Addr}
theorem RDs.ne {K : PySem.W.Frag} {ρ : List Addr} {H : Hp} {ds : List D} {xs : List V} (r : RDs K G ρ H ds xs) (h : ds ≠ []) : xs ≠ [] := fun e => h (r.nil_iff.mpr e)
theorem ok_add : OpOK X G (binaryOp .Add) addD := by
  intro pins s σ H x y v u Q I rx ry q
  obtain ⟨ρ, h, a, b, w, h', R, ra, rb, e, k⟩ := q
  unfold addD at e
  split at e
  · cases e; cases ra; cases rb
    exact op_add pins s σ H _ _ v u Q I rx ry ⟨_, _, rfl, rfl, k ρ H _ .refl R (.int _)⟩
  · split at e
    · rename_i hz
      cases e
      cases ra with
      | tup sa da =>
        cases rb with
        | tup sb db =>
          refine op_catA pins s σ H _ _ v u Q I rx ry ⟨_, _, _, _, rfl, rfl, sa, sb, by rw [← da.length, ← db.length]; exact hz, fun e0 => ?_, fun n0 e0 => ?_, fun _ _ p np => ?_⟩
          · refine k ρ H _ .refl R (.tup sb ?_)
            have := da.nil_iff.mpr e0
            subst this
            exact db
          · refine k ρ H _ .refl R (.tup sa ?_)
            have := db.nil_iff.mpr e0
            subst this
            rw [List.append_nil]
            exact da
          · obtain ⟨f2, r2, q2⟩ := new_tup R np (da.append db)
            exact k _ _ _ f2 r2 q2
    · cases e
  · split at e
    · rename_i xs ys g1 g2
      split at e
      · rename_i hz
        cases e
        obtain ⟨a1, vs1, p1, p2, p3⟩ := R.lst g1
        obtain ⟨a2, vs2, p4, p5, p6⟩ := R.lst g2
        cases ra with
        | ref ha =>
          cases rb with
          | ref hb =>
            rw [ha] at p1; cases p1
            rw [hb] at p4; cases p4
            refine op_cat pins s σ H _ _ v u Q I rx ry ⟨_, _, _, _, rfl, rfl, p2, p5, by rw [← p3.length, ← p6.length]; exact hz, fun p np => ?_⟩
            obtain ⟨f2, r2, q2⟩ := new_lst R np (p3.append p6)
            exact k _ _ _ f2 r2 q2
      · cases e
    · cases e
  · split at e
    · rename_i hz
      cases e; cases ra; cases rb
      exact op_add_str pins s σ H _ _ v u Q I rx ry ⟨_, _, rfl, rfl, hz, k ρ H _ .refl R (.str _)⟩
    · cases e
  · cases e
theorem ok_sub : OpOK X G (binaryOp .Sub) subD := by
  intro pins s σ H x y v u Q I rx ry q
  obtain ⟨ρ, h, a, b, w, h', R, ra, rb, e, k⟩ := q
  unfold subD at e
  split at e
  · cases e; cases ra; cases rb
    exact op_sub pins s σ H _ _ v u Q I rx ry ⟨_, _, rfl, rfl, k ρ H _ .refl R (.int _)⟩
  · cases e
theorem ok_mul : OpOK X G (binaryOp .Mult) mulD := by
  intro pins s σ H x y v u Q I rx ry q
  obtain ⟨ρ, h, a, b, w, h', R, ra, rb, e, k⟩ := q
  unfold mulD at e
  split at e
  · split at e
    · rename_i hc
      cases e; cases ra; cases rb
      rw [Bool.or_eq_true] at hc
      exact op_mul pins s σ H _ _ v u Q I rx ry ⟨_, _, rfl, rfl, hc.imp small64_ok small64_ok, k ρ H _ .refl R (.int _)⟩
    · cases e
  · split at e
    · rename_i hc
      obtain ⟨c1, c2, c3, c4⟩ := hc
      cases e
      cases rb
      cases ra with
      | tup sa da =>
        refine op_repT pins s σ H _ _ v u Q I rx ry ⟨_, _, _, rfl, rfl, sa, da.ne c1, c2, c3, by rw [← da.length]; exact c4, fun p np => ?_⟩
        obtain ⟨f2, r2, q2⟩ := new_tup R np (da.rep _)
        exact k _ _ _ f2 r2 q2
    · cases e
  · split at e
    · rename_i xs g1
      split at e
      · rename_i hc
        obtain ⟨c1, c2, c3⟩ := hc
        cases e
        cases rb
        obtain ⟨a1, vs1, p1, p2, p3⟩ := R.lst g1
        cases ra with
        | ref ha =>
          rw [ha] at p1; cases p1
          refine op_rep pins s σ H _ _ v u Q I rx ry ⟨_, _, _, rfl, rfl, p2, c1, c2, by rw [← p3.length]; exact c3, fun p np => ?_⟩
          obtain ⟨f2, r2, q2⟩ := new_lst R np (p3.rep _)
          exact k _ _ _ f2 r2 q2
      · cases e
    · cases e
  · cases e
theorem ok_fdiv : OpOK X G (binaryOp .FloorDiv) fdivD := by
  intro pins s σ H x y v u Q I rx ry q
  obtain ⟨ρ, h, a, b, w, h', R, ra, rb, e, k⟩ := q
  unfold fdivD at e
  split at e
  · split at e
    · rename_i hc
      cases e; cases ra; cases rb
      exact op_fdiv pins s σ H _ _ v u Q I rx ry ⟨_, _, rfl, rfl, hc, k ρ H _ .refl R (.int _)⟩
    · cases e
  · cases e
theorem ok_mod : OpOK X G (binaryOp .Mod) modD := by
  intro pins s σ H x y v u Q I rx ry q
  obtain ⟨ρ, h, a, b, w, h', R, ra, rb, e, k⟩ := q
  unfold modD at e
  split at e
  · split at e
    · rename_i hc
      cases e; cases ra; cases rb
      exact op_mod pins s σ H _ _ v u Q I rx ry ⟨_, _, rfl, rfl, hc, k ρ H _ .refl R (.int _)⟩
    · cases e
  · cases e
theorem ok_pow : OpOK X G (binaryOp .Pow) powD := by
  intro pins s σ H x y v u Q I rx ry q
  obtain ⟨ρ, h, a, b, w, h', R, ra, rb, e, k⟩ := q
  unfold powD at e
  split at e
  · split at e
    · rename_i hc
      obtain ⟨c1, c2, c3⟩ := hc
      cases e; cases ra; cases rb
      have c4 := Nat.le_of_ble_eq_true c3
      exact op_pow pins s σ H _ _ v u Q I rx ry ⟨_, _, rfl, rfl, ⟨c1, by omega, by omega⟩, k ρ H _ .refl R (.int _)⟩
    · cases e
  · cases e
end

/-! ### comparisons -/
def eqB (h : MH) (a b : D) : Option Bool := match a, b with
  | .int i, .int j => some (i == j)
  | .bl i, .bl j => some (i == j)
  | .str i, .str j => some (decide (i = j))
  | .rep i, .rep j => some (decide (i.shown = j.shown))
  | a, b => match snap h deep a, snap h deep b with
    | some x, some y => if SeqAt.shaped x && SeqAt.shaped y then some (PyData.eqv x y) else none
    | _, _ => none
def eqD (a b : D) (h : MH) : Option (D × MH) := (eqB h a b).map fun k => (.bl k, h)
def neD (a b : D) (h : MH) : Option (D × MH) := (eqB h a b).map fun k => (.bl (!k), h)
def cmpD (f : Int → Int → Bool) (a b : D) (h : MH) : Option (D × MH) := match a, b with
  | .int i, .int j => some (.bl (f i j), h)
  | _, _ => none
def ltD : D → D → MH → Option (D × MH) := cmpD fun i j => decide (i < j)
def leD : D → D → MH → Option (D × MH) := cmpD fun i j => decide (i ≤ j)
def gtD : D → D → MH → Option (D × MH) := cmpD fun i j => decide (j < i)
def geD : D → D → MH → Option (D × MH) := cmpD fun i j => decide (j ≤ i)
/-- is -/
def isSame (a b : D) : Option Bool := match a, b with
  | .non, .non => some true
  | .bl i, .bl j => some (i == j)
  | .bl _, .non => some false
  | .int _, .non => some false
  | .str _, .non => some false
  | .rep _, .non => some false
  | .tup _, .non => some false
  | .ref _, .non => some false
  | _, _ => none
def isD (a b : D) (h : MH) : Option (D × MH) := (isSame a b).map fun k => (.bl k, h)
def isNotD (a b : D) (h : MH) : Option (D × MH) := (isSame a b).map fun k => (.bl (!k), h)
/-- in: a list, flat or not; a tuple of flat things; a text -/
def flatD : D → Bool
  | .non | .bl _ | .int _ | .str _ => true
  | _ => false
def toV : D → V
  | .bl b => .bl b
  | .int i => .int i
  | .str x => .str x
  | _ => .non
def inB (h : MH) (a b : D) : Option Bool := match b with
  | .tup xs => if flatD a && xs.all flatD then some (inV (toV a) (xs.map toV)) else none
  | .ref i => match snap h deep a, snap h deep (.ref i) with
    | some x, some (.list ys) => if SeqAt.shaped x && SeqAt.shaped (.list ys) then some (ys.any fun z => PyData.eqv z x) else none
    | _, _ => none
  | .str j => match a with
    | .str i => some (!(Builtin.Str.occurrences j i 0 j.length 1).isEmpty)
    | _ => none
  | _ => none
def inD (a b : D) (h : MH) : Option (D × MH) := (inB h a b).map fun k => (.bl k, h)
def notInD (a b : D) (h : MH) : Option (D × MH) := (inB h a b).map fun k => (.bl (!k), h)
section
variable {X : Cx} {G : Nat → Option Addr} {K : PySem.W.Frag} {ρ : List Addr} {H : Hp}
theorem RD.dp {h : MH} (R : Rel K G ρ h H) {d : D} {v : V} {p : PyData} {f : Nat} (r : RD K G ρ H d v) (e : snap h f d = some p) : Dp K H v p := snap_ok R f d v p r e
theorem eqB_cases {h : MH} {a b : D} {k : Bool} (e : eqB h a b = some k) : (∃ i j, a = .int i ∧ b = .int j ∧ k = (i == j)) ∨ (∃ i j, a = .bl i ∧ b = .bl j ∧ k = (i == j)) ∨ (∃ i j, a = .str i ∧ b = .str j ∧ k = decide (i = j)) ∨ (∃ i j, a = .rep i ∧ b = .rep j ∧ k = decide (i.shown = j.shown)) ∨
    ∃ x y, snap h deep a = some x ∧ snap h deep b = some y ∧ SeqAt.shaped x = true ∧ SeqAt.shaped y = true ∧ k = PyData.eqv x y := by
  unfold eqB at e
  split at e
  · cases e; exact .inl ⟨_, _, rfl, rfl, rfl⟩
  · cases e; exact .inr (.inl ⟨_, _, rfl, rfl, rfl⟩)
  · cases e; exact .inr (.inr (.inl ⟨_, _, rfl, rfl, rfl⟩))
  · cases e; exact .inr (.inr (.inr (.inl ⟨_, _, rfl, rfl, rfl⟩)))
  · split at e
    · rename_i x y e1 e2
      split at e
      · rename_i hc
        rw [Bool.and_eq_true] at hc
        cases e
        exact .inr (.inr (.inr (.inr ⟨x, y, e1, e2, hc.1, hc.2, rfl⟩)))
      · cases e
    · cases e
theorem ok_eq (hu : X.A.units + 64 < cLine) : OpOK X G (compareOp .Eq) eqD := by
  intro pins s σ H x y v u Q I rx ry q
  obtain ⟨ρ, h, a, b, w, h', R, ra, rb, e, k⟩ := q
  simp only [eqD, Option.map_eq_some_iff] at e
  obtain ⟨c, e, e'⟩ := e
  cases e'
  have fin := k ρ H _ .refl R (.bl c)
  rcases eqB_cases e with ⟨i, j, rfl, rfl, rfl⟩ | ⟨i, j, rfl, rfl, rfl⟩ | ⟨i, j, rfl, rfl, rfl⟩ | ⟨i, j, rfl, rfl, rfl⟩ | ⟨p, q, e1, e2, s1, s2, rfl⟩
  · cases ra; cases rb
    exact op_eq pins s σ H _ _ v u Q I rx ry ⟨rfl, by rw [dec_int]; exact fin⟩
  · cases ra; cases rb
    exact op_eq pins s σ H _ _ v u Q I rx ry ⟨rfl, by rw [dec_bl]; exact fin⟩
  · cases ra; cases rb
    exact op_eq pins s σ H _ _ v u Q I rx ry ⟨rfl, by rw [dec_str]; rw [show (i == j) = decide (i = j) from by rw [Bool.eq_iff_iff]; simp]; exact fin⟩
  · cases ra; cases rb
    exact op_eq pins s σ H _ _ v u Q I rx ry ⟨rfl, by rw [dec_str]; rw [show (i.shown == j.shown) = decide (i.shown = j.shown) from by rw [Bool.eq_iff_iff]; simp]; exact fin⟩
  · exact op_eqD hu pins s σ H _ _ v u Q I rx ry ⟨p, q, ra.dp R e1, rb.dp R e2, s1, s2, fin⟩
theorem ok_ne (hu : X.A.units + 64 < cLine) : OpOK X G (compareOp .NotEq) neD := by
  intro pins s σ H x y v u Q I rx ry q
  obtain ⟨ρ, h, a, b, w, h', R, ra, rb, e, k⟩ := q
  simp only [neD, Option.map_eq_some_iff] at e
  obtain ⟨c, e, e'⟩ := e
  cases e'
  have fin := k ρ H _ .refl R (.bl (!c))
  rcases eqB_cases e with ⟨i, j, rfl, rfl, rfl⟩ | ⟨i, j, rfl, rfl, rfl⟩ | ⟨i, j, rfl, rfl, rfl⟩ | ⟨i, j, rfl, rfl, rfl⟩ | ⟨p, q, e1, e2, s1, s2, rfl⟩
  · cases ra; cases rb
    exact op_ne pins s σ H _ _ v u Q I rx ry ⟨rfl, by rw [dec_int]; exact fin⟩
  · cases ra; cases rb
    exact op_ne pins s σ H _ _ v u Q I rx ry ⟨rfl, by rw [dec_bl]; exact fin⟩
  · cases ra; cases rb
    exact op_ne pins s σ H _ _ v u Q I rx ry ⟨rfl, by rw [dec_str]; rw [show (i == j) = decide (i = j) from by rw [Bool.eq_iff_iff]; simp]; exact fin⟩
  · cases ra; cases rb
    exact op_ne pins s σ H _ _ v u Q I rx ry ⟨rfl, by rw [dec_str]; rw [show (i.shown == j.shown) = decide (i.shown = j.shown) from by rw [Bool.eq_iff_iff]; simp]; exact fin⟩
  · exact op_neD hu pins s σ H _ _ v u Q I rx ry ⟨p, q, ra.dp R e1, rb.dp R e2, s1, s2, fin⟩
theorem ok_cmp {op : CmpOp} {f : Int → Int → Bool} (ho : OpR X (compareOp op) (rI0 fun i j => .bl (f i j))) : OpOK X G (compareOp op) (cmpD f) := by
  intro pins s σ H x y v u Q I rx ry q
  obtain ⟨ρ, h, a, b, w, h', R, ra, rb, e, k⟩ := q
  unfold cmpD at e
  split at e
  · cases e; cases ra; cases rb
    exact ho pins s σ H _ _ v u Q I rx ry ⟨_, _, rfl, rfl, k ρ H _ .refl R (.bl _)⟩
  · cases e
theorem ok_lt : OpOK X G (compareOp .Lt) ltD := ok_cmp op_lt
theorem ok_le : OpOK X G (compareOp .LtE) leD := ok_cmp op_le
theorem ok_gt : OpOK X G (compareOp .Gt) gtD := ok_cmp op_gt
theorem ok_ge : OpOK X G (compareOp .GtE) geD := ok_cmp op_ge
theorem isSame_ok {a b : D} {x y : V} {k : Bool} (ra : RD K G ρ H a x) (rb : RD K G ρ H b y) (e : isSame a b = some k) : (y = .non ∧ k = decide (x = .non)) ∨ ∃ i j, x = .bl i ∧ y = .bl j ∧ k = decide (i = j) := by
  unfold isSame at e
  split at e <;> first
    | (cases e; cases ra; cases rb; exact .inl ⟨rfl, by simp⟩)
    | (cases e; cases ra; cases rb; exact .inr ⟨_, _, rfl, rfl, by rw [Bool.beq_eq_decide_eq]⟩)
    | cases e
theorem ok_is : OpOK X G (compareOp .Is) isD := by
  intro pins s σ H x y v u Q I rx ry q
  obtain ⟨ρ, h, a, b, w, h', R, ra, rb, e, k⟩ := q
  simp only [isD, Option.map_eq_some_iff] at e
  obtain ⟨c, e, e'⟩ := e
  cases e'
  have fin := k ρ H _ .refl R (.bl c)
  rcases isSame_ok ra rb e with ⟨rfl, rfl⟩ | ⟨i, j, rfl, rfl, rfl⟩
  · exact op_isN pins s σ H _ _ v u Q I rx ry ⟨rfl, fin⟩
  · exact op_isBl pins s σ H _ _ v u Q I rx ry ⟨_, _, rfl, rfl, fin⟩
theorem ok_isNot : OpOK X G (compareOp .IsNot) isNotD := by
  intro pins s σ H x y v u Q I rx ry q
  obtain ⟨ρ, h, a, b, w, h', R, ra, rb, e, k⟩ := q
  simp only [isNotD, Option.map_eq_some_iff] at e
  obtain ⟨c, e, e'⟩ := e
  cases e'
  have fin := k ρ H _ .refl R (.bl (!c))
  rcases isSame_ok ra rb e with ⟨rfl, rfl⟩ | ⟨i, j, rfl, rfl, rfl⟩
  · exact op_notN pins s σ H _ _ v u Q I rx ry ⟨rfl, fin⟩
  · exact op_notBl pins s σ H _ _ v u Q I rx ry ⟨_, _, rfl, rfl, fin⟩
theorem flat_v {d : D} {v : V} (r : RD K G ρ H d v) (e : flatD d = true) : v = toV d ∧ flatV v = true := by
  cases r <;> first | exact ⟨rfl, rfl⟩ | cases e
theorem flats_v : ∀ {ds : List D} {vs : List V}, RDs K G ρ H ds vs → ds.all flatD = true → vs = ds.map toV ∧ vs.all flatV = true
  | _, _, .nil, _ => ⟨rfl, rfl⟩
  | _, _, .cons a b, e => by
    rw [List.all_cons, Bool.and_eq_true] at e
    obtain ⟨h1, h2⟩ := flat_v a e.1
    obtain ⟨h3, h4⟩ := flats_v b e.2
    exact ⟨by rw [List.map_cons, ← h1, ← h3], by rw [List.all_cons, h2, h4]; rfl⟩
theorem inB_ok {h : MH} (R : Rel K G ρ h H) {a b : D} {x y : V} {k : Bool} (ra : RD K G ρ H a x) (rb : RD K G ρ H b y) (e : inB h a b = some k) :
    (∃ p xs, y = .ref p ∧ SqT K H p xs ∧ flatV x = true ∧ xs.all flatV = true ∧ k = inV x xs) ∨ (∃ d ds, Dp K H x d ∧ Dp K H y (.list ds) ∧ SeqAt.shaped d = true ∧ SeqAt.shaped (.list ds) = true ∧ k = ds.any fun z => PyData.eqv z d) ∨
      ∃ i j, x = .str i ∧ y = .str j ∧ k = !(Builtin.Str.occurrences j i 0 j.length 1).isEmpty := by
  unfold inB at e
  split at e
  · split at e
    · rename_i hc
      rw [Bool.and_eq_true] at hc
      cases e
      cases rb with
      | tup sa da =>
        obtain ⟨h1, h2⟩ := flat_v ra hc.1
        obtain ⟨h3, h4⟩ := flats_v da hc.2
        exact .inl ⟨_, _, rfl, sa, h2, h4, by rw [h1, h3]⟩
    · cases e
  · split at e
    · rename_i d ds e1 e2
      split at e
      · rename_i hc
        rw [Bool.and_eq_true] at hc
        cases e
        exact .inr (.inl ⟨d, ds, ra.dp R e1, rb.dp R e2, hc.1, hc.2, rfl⟩)
      · cases e
    · cases e
  · split at e
    · cases e; cases ra; cases rb
      exact .inr (.inr ⟨_, _, rfl, rfl, rfl⟩)
    · cases e
  · cases e
theorem ok_in (hu : X.A.units + 65 < cLine) : OpOK X G (compareOp .In) inD := by
  intro pins s σ H x y v u Q I rx ry q
  obtain ⟨ρ, h, a, b, w, h', R, ra, rb, e, k⟩ := q
  simp only [inD, Option.map_eq_some_iff] at e
  obtain ⟨c, e, e'⟩ := e
  cases e'
  have fin := k ρ H _ .refl R (.bl c)
  rcases inB_ok R ra rb e with ⟨p, xs, rfl, h1, h2, h3, rfl⟩ | ⟨d, ds, h1, h2, h3, h4, rfl⟩ | ⟨i, j, rfl, rfl, rfl⟩
  · exact op_in_seq pins s σ H _ _ v u Q I rx ry ⟨p, xs, rfl, .inr h1, h2, h3, by simpa using fin⟩
  · exact op_inD hu pins s σ H _ _ v u Q I rx ry ⟨d, ds, h1, h2, h3, h4, fin⟩
  · exact op_in_str pins s σ H _ _ v u Q I rx ry ⟨_, _, rfl, rfl, fin⟩
theorem ok_notIn (hu : X.A.units + 65 < cLine) : OpOK X G (compareOp .NotIn) notInD := by
  intro pins s σ H x y v u Q I rx ry q
  obtain ⟨ρ, h, a, b, w, h', R, ra, rb, e, k⟩ := q
  simp only [notInD, Option.map_eq_some_iff] at e
  obtain ⟨c, e, e'⟩ := e
  cases e'
  have fin := k ρ H _ .refl R (.bl (!c))
  rcases inB_ok R ra rb e with ⟨p, xs, rfl, h1, h2, h3, rfl⟩ | ⟨d, ds, h1, h2, h3, h4, rfl⟩ | ⟨i, j, rfl, rfl, rfl⟩
  · exact op_notIn_seq pins s σ H _ _ v u Q I rx ry ⟨p, xs, rfl, .inr h1, h2, h3, by simpa using fin⟩
  · exact op_notInD hu pins s σ H _ _ v u Q I rx ry ⟨d, ds, h1, h2, h3, h4, fin⟩
  · exact op_notin_str pins s σ H _ _ v u Q I rx ry ⟨_, _, rfl, rfl, fin⟩
end
end MM

set_option Elab.async false
set_option linter.all false
set_option maxRecDepth 100000
set_option maxHeartbeats 4000000
set_option autoImplicit false
/-! subscripts, slices, built-in functions -/
namespace MM
open PySem PySem.Spec PyProof.Rows L2

/-! ### x[i] -/
def ixD (a b : D) (h : MH) : Option (D × MH) := match b with
  | .int i => match a with
    | .tup xs => keep h (atI xs i)
    | .ref j => match h.seq j with
      | some xs => keep h (atI xs i)
      | none => none
    | .str z => if z.length ≤ sizeLine then keep h ((atI z.cps.toList i).map fun c => .str ⟨#[c]⟩) else none
    | _ => none
  | _ => none
section
variable {X : Cx} {G : Nat → Option Addr} {K : PySem.W.Frag} {ρ : List Addr} {H : Hp} {W : WX} {e a b c : Expr} {es : List Expr} {pos : Pos}
theorem RDs.atI {ds : List D} {xs : List V} {i : Int} {d : D} (r : RDs K G ρ H ds xs) (e : L2.atI ds i = some d) : ∃ v, L2.atI xs i = some v ∧ RD K G ρ H d v := by
  unfold L2.atI at e ⊢
  rw [← r.length]
  cases q : ixN ds.length i with
  | none => rw [q] at e; cases e
  | some j =>
    rw [q] at e
    exact r.get e
theorem keep_eq {α : Type} {h h' : MH} {o : Option α} {v : α} (e : keep h o = some (v, h')) : o = some v ∧ h' = h := by
  cases o with
  | none => cases e
  | some a => cases e; exact ⟨rfl, rfl⟩
theorem ix_ok : IxR X (rOp X.K G ixD) := by
  intro val sli pins s σ H x y v u Q I rx ry q hsub
  obtain ⟨ρ, h, a, b, w, h', R, ra, rb, e, k⟩ := q
  unfold ixD at e
  split at e
  · split at e
    · obtain ⟨e1, rfl⟩ := keep_eq e
      cases rb
      cases ra with
      | tup sa da =>
        obtain ⟨z, e2, e3⟩ := da.atI e1
        exact ix_tup val sli pins s σ H _ _ v u Q I rx ry ⟨_, _, _, z, rfl, rfl, sa, e2, k ρ H _ .refl R e3⟩ hsub
    · split at e
      · rename_i xs es
        obtain ⟨e1, rfl⟩ := keep_eq e
        obtain ⟨a1, ys, p1, p2, p3⟩ := R.seq es
        cases rb
        cases ra with
        | ref ha =>
          rw [ha] at p1; cases p1
          obtain ⟨z, e2, e3⟩ := p3.atI e1
          exact ix_list val sli pins s σ H _ _ v u Q I rx ry ⟨_, _, _, z, rfl, rfl, p2, e2, k ρ H _ .refl R e3⟩ hsub
      · cases e
    · split at e
      · rename_i hz
        obtain ⟨e1, rfl⟩ := keep_eq e
        rw [Option.map_eq_some_iff] at e1
        obtain ⟨c, e1, rfl⟩ := e1
        cases rb; cases ra
        exact ix_str val sli pins s σ H _ _ v u Q I rx ry ⟨_, _, _, rfl, rfl, hz, e1, k ρ H _ .refl R (.str _)⟩ hsub
      · cases e
    · cases e
  · cases e
theorem me_ix {ma mb : Mx} (ha : PE X a (RdE X.K G W ma)) (hb : PE X b (RdE X.K G W mb)) (hs : PlainIx b := by exact fun _ _ => rfl) : PE X (.Subscript a b pos) (RdE X.K G W (eOp ixD ma mb)) :=
  PE.imp (pe_ix ix_ok ha hb hs) fun _ _ _ q => two_op q

/-! ### slices -/
abbrev Mo := ME → MH → Res (Option Int)
def oNone : Mo := fun _ h => .ok none h
def oPart (m : Mx) : Mo := fun env h => (m env h).bind fun x h1 => match x with
  | .int i => .ok (some i) h1
  | _ => .bad
def RdO (K : PySem.W.Frag) (G : Nat → Option Addr) (W : WX) (m : Mo) : TO := fun σ H Q => ∃ (ρ : List Addr) (h : MH) (env : ME), Rel K G ρ h H ∧ REnv K G ρ H env σ ∧ Wp K G (fun _ _ a b => a = b) ρ H (m env h) Q (fun c d H' => W c d σ H')
theorem PO.imp {e : Option Expr} {t t' : TO} (p : PO X e t) (k : ∀ σ H Q, t' σ H Q → t σ H Q) : PO X e t' := ⟨fun pins s σ H Q I q => p.run pins s σ H Q I (k _ _ _ q)⟩
theorem mo_none : PO X none (RdO X.K G W oNone) := PO.imp po_none fun σ H Q ⟨ρ, h, env, r, re, w⟩ => w.ret r rfl
theorem mo_some {m : Mx} (he : PE X e (RdE X.K G W m)) : PO X (some e) (RdO X.K G W (oPart m)) := by
  refine PO.imp (po_some he) fun σ H Q q => ?_
  obtain ⟨ρ, h, env, r, re, w⟩ := q
  refine ⟨ρ, h, env, r, re, Wp.bind w fun x h1 ρ1 H1 vx f1 r1 q1 w1 => ?_⟩
  cases q1 with
  | int i => exact ⟨i, rfl, w1.ret r1 rfl⟩
  | _ => exact w1.elim
def cutD (xs : List D) (lo hi : Option Int) : List D := (xs.drop (HT.sIx xs.length 0 lo)).take (HT.sIx xs.length xs.length hi - HT.sIx xs.length 0 lo)
def slD (x : D) (lo hi : Option Int) (h : MH) : Option (D × MH) := match x with
  | .tup xs => some (.tup (cutD xs lo hi), h)
  | .ref i => match h.seq i with
    | some xs => some (.ref h.n, h.add (.lst (cutD xs lo hi)))
    | none => none
  | _ => none
def eSl (m : Mx) (ml mh : Mo) : Mx := fun env h => (m env h).bind fun x h1 => (ml env h1).bind fun lo h2 => (mh env h2).bind fun hi h3 => ofOpt (slD x lo hi h3)
def rSl (K : PySem.W.Frag) (G : Nat → Option Addr) : V → Option Int → Option Int → Hp → VK → Prop := fun x lo hi H Q => ∃ (ρ : List Addr) (h : MH) (a v : D) (h' : MH), Rel K G ρ h H ∧ RD K G ρ H a x ∧ slD a lo hi h = some (v, h') ∧
  ∀ (ρ' : List Addr) (H' : Hp) (v' : V), Fut K ρ H ρ' H' → Rel K G ρ' h' H' → RD K G ρ' H' v v' → Q v' H'
theorem RDs.cut {ds : List D} {xs : List V} (lo hi : Option Int) (r : RDs K G ρ H ds xs) : RDs K G ρ H (cutD ds lo hi) (cutV xs lo hi) := by
  unfold cutD cutV
  rw [← r.length]
  exact (r.drop _).take _
theorem cut_whole {ds : List D} {lo hi : Option Int} (h1 : HT.sIx ds.length 0 lo = 0) (h2 : HT.sIx ds.length ds.length hi = ds.length) : cutD ds lo hi = ds := by
  unfold cutD
  rw [h1, h2, List.drop_zero, Nat.sub_zero, List.take_length]
theorem sl_ok : SlR X (rSl X.K G) := by
  intro pins s σ H x v vl vu lo hi sl Q I rx hs pl pu q
  obtain ⟨ρ, h, a, w, h', R, ra, e, k⟩ := q
  unfold slD at e
  split at e
  · cases e
    cases ra with
    | tup sa da =>
      refine sl_tupA pins s σ H _ v vl vu lo hi sl Q I rx hs pl pu ⟨_, _, rfl, sa, fun hw => ?_, fun hw p np => ?_⟩
      · rw [← da.length] at hw
        exact k ρ H _ .refl R (.tup sa (by rw [cut_whole hw.1 hw.2]; exact da))
      · obtain ⟨f2, r2, q2⟩ := new_tup R np (da.cut lo hi)
        exact k _ _ _ f2 r2 q2
  · split at e
    · rename_i xs es
      cases e
      obtain ⟨a1, ys, p1, p2, p3⟩ := R.seq es
      cases ra with
      | ref ha =>
        rw [ha] at p1; cases p1
        refine sl_list pins s σ H _ v vl vu lo hi sl Q I rx hs pl pu ⟨_, _, rfl, p2, fun p np => ?_⟩
        obtain ⟨f2, r2, q2⟩ := new_lst R np (p3.cut lo hi)
        exact k _ _ _ f2 r2 q2
    · cases e
  · cases e
theorem me_sl {lo hi : Option Expr} {p2 : Pos} {m : Mx} {ml mh : Mo} (he : PE X e (RdE X.K G W m)) (hl : PO X lo (RdO X.K G W ml)) (hu : PO X hi (RdO X.K G W mh)) : PE X (.Subscript e (.Slice lo hi none p2) pos) (RdE X.K G W (eSl m ml mh)) := by
  refine PE.imp (pe_slice (sl_ok (G := G)) he hl hu) fun σ H Q q => ?_
  obtain ⟨ρ, h, env, r, re, w⟩ := q
  refine ⟨ρ, h, env, r, re, Wp.bind w fun x h1 ρ1 H1 vx f1 r1 q1 w1 => ?_⟩
  refine ⟨ρ1, h1, env, r1, re.fut f1, Wp.bind w1 fun lo' h2 ρ2 H2 y f2 r2 q2 w2 => ?_⟩
  subst q2
  refine ⟨ρ2, h2, env, r2, (re.fut f1).fut f2, Wp.bind w2 fun hi' h3 ρ3 H3 y f3 r3 q3 w3 => ?_⟩
  subst q3
  obtain ⟨v, h', e, k⟩ := w3.opt
  exact ⟨ρ3, h3, x, v, h', r3, (q1.fut f2).fut f3, e, k⟩

/-! ### -x -/
def negD (a : D) (h : MH) : Option (D × MH) := match a with
  | .int i => some (.int (-i), h)
  | _ => none
def eUn (f : D → MH → Option (D × MH)) (m : Mx) : Mx := fun env h => (m env h).bind fun x h1 => ofOpt (f x h1)
theorem me_neg {m : Mx} (ha : PE X a (RdE X.K G W m)) : PE X (.UnaryOp .USub a pos) (RdE X.K G W (eUn negD m)) := by
  refine PE.imp (pe_un un_neg ha) fun σ H Q q => ?_
  obtain ⟨ρ, h, env, r, re, w⟩ := q
  refine ⟨ρ, h, env, r, re, Wp.bind w fun x h1 ρ1 H1 vx f1 r1 q1 w1 => ?_⟩
  cases q1 with
  | int i => exact ⟨i, rfl, w1.ret r1 (.int _)⟩
  | _ => exact w1.elim

/-! ### built-in functions and classes, called -/
def CallOK (X : Cx) (G : Nat → Option Addr) (F : Value) (f : List D → MH → Option (D × MH)) : Prop := CallR X F (rCall X.K G f)
def eCB (f : List D → MH → Option (D × MH)) (ms : Ma) : Mx := fun env h => (ms env h).bind fun ds h1 => ofOpt (f ds h1)
theorem cb_rd {f : List D → MH → Option (D × MH)} {ms : Ma} {σ : L2.St} {H : Hp} {Q : VK} (q : RdE X.K G W (eCB f ms) σ H Q) : tCB (rCall X.K G f) (RdA X.K G W ms) σ H Q := by
  obtain ⟨ρ, h, env, r, re, w⟩ := q
  refine ⟨ρ, h, env, r, re, Wp.bind w fun xs h1 ρ1 H1 vs f1 r1 q1 w1 => ?_⟩
  obtain ⟨v, h', e, k⟩ := w1.opt
  exact ⟨ρ1, h1, xs, v, h', r1, q1, e, k⟩
section
variable {x : Str} {p : Pos} {id : String} {f : List D → MH → Option (D × MH)} {ms : Ma}
theorem me_callB (hc : CallOK X G (.builtin id) f) (hg : Gl X x) (hm : X.mg x = none) (hv : bootBuiltins x = some (.builtin id)) (ha : PA X (e :: es) (RdA X.K G W ms)) (hn : x ≠ "__name__" := by decide) (hdb : (x == ("__debug__" : Str)) = false := by decide)
    (he : starEach (e :: es) X.env = (false, eval e X.env) :: starEach es X.env := by rfl) (hpl : (backTo pos (starEach es X.env)).any (·.1) = false := by rfl) : PE X (.Call (.Name x p) (e :: es) [] pos) (RdE X.K G W (eCB f ms)) :=
  PE.imp (pe_callB hc hg hm hv ha hn hdb he hpl) fun _ _ _ q => cb_rd q
theorem me_callTy (hc : CallOK X G (.type id) f) (hg : Gl X x) (hm : X.mg x = none) (hv : bootBuiltins x = some (.type id)) (ha : PA X (e :: es) (RdA X.K G W ms)) (hn : x ≠ "__name__" := by decide) (hdb : (x == ("__debug__" : Str)) = false := by decide)
    (he : starEach (e :: es) X.env = (false, eval e X.env) :: starEach es X.env := by rfl) (hpl : (backTo pos (starEach es X.env)).any (·.1) = false := by rfl) : PE X (.Call (.Name x p) (e :: es) [] pos) (RdE X.K G W (eCB f ms)) :=
  PE.imp (pe_callTy hc hg hm hv ha hn hdb he hpl) fun _ _ _ q => cb_rd q
/-- a name of the library (math.gcd) -/
theorem me_callL (hc : CallOK X G (.builtin id) f) (hg : Gl X x) (hm : X.mg x = some (.builtin id)) (ha : PA X (e :: es) (RdA X.K G W ms)) (hdb : (x == ("__debug__" : Str)) = false := by decide)
    (he : starEach (e :: es) X.env = (false, eval e X.env) :: starEach es X.env := by rfl) (hpl : (backTo pos (starEach es X.env)).any (·.1) = false := by rfl) : PE X (.Call (.Name x p) (e :: es) [] pos) (RdE X.K G W (eCB f ms)) :=
  PE.imp (pe_callBfun hc hg hm ha hdb he hpl) fun _ _ _ q => cb_rd q
end
def lenN (h : MH) : D → Option Nat
  | .tup xs => some xs.length
  | .ref i => (h.seq i).map List.length
  | .str z => if z.length ≤ sizeLine then some z.length else none
  | _ => none
def lenF (ds : List D) (h : MH) : Option (D × MH) := match ds with
  | [x] => (lenN h x).map fun (n : Nat) => (.int (n : Int), h)
  | _ => none
def absF (ds : List D) (h : MH) : Option (D × MH) := match ds with
  | [.int i] => some (.int (if i < 0 then -i else i), h)
  | _ => none
def maxF (ds : List D) (h : MH) : Option (D × MH) := match ds with
  | [.int i, .int j] => some (.int (if j > i then j else i), h)
  | _ => none
def minF (ds : List D) (h : MH) : Option (D × MH) := match ds with
  | [.int i, .int j] => some (.int (if j < i then j else i), h)
  | _ => none
def intF (ds : List D) (h : MH) : Option (D × MH) := match ds with
  | [.int i] => some (.int i, h)
  | [.bl k] => some (.int (if k then 1 else 0), h)
  | _ => none
def tupleF (ds : List D) (h : MH) : Option (D × MH) := match ds with
  | [.tup xs] => some (.tup xs, h)
  | [.ref i] => (h.seq i).map fun xs => (.tup xs, h)
  | _ => none
def listF (ds : List D) (h : MH) : Option (D × MH) := match ds with
  | [.tup xs] => some (.ref h.n, h.add (.lst xs))
  | [.ref i] => (h.seq i).map fun xs => (.ref h.n, h.add (.lst xs))
  | _ => none
def gcdF (ds : List D) (h : MH) : Option (D × MH) := match ds with
  | [.int i, .int j] => some (.int (Nat.gcd i.natAbs j.natAbs : Nat), h)
  | _ => none
def boolsD : List D → Option (List Bool)
  | [] => some []
  | .bl b :: ds => (boolsD ds).map (b :: ·)
  | _ => none
def intsD : List D → Option (List Int)
  | [] => some []
  | .int b :: ds => (intsD ds).map (b :: ·)
  | _ => none
def allF (ds : List D) (h : MH) : Option (D × MH) := match ds with
  | [.ref i] => ((h.seq i).bind boolsD).map fun bs => (.bl (bs.all id), h)
  | _ => none
def anyF (ds : List D) (h : MH) : Option (D × MH) := match ds with
  | [.ref i] => ((h.seq i).bind boolsD).map fun bs => (.bl (bs.any id), h)
  | _ => none
def sumF (ds : List D) (h : MH) : Option (D × MH) := match ds with
  | [.ref i] => ((h.seq i).bind intsD).map fun ns => (.int ns.sum, h)
  | _ => none
/-- a value's class -/
def tyOf (h : MH) : D → Option Ty
  | .non => some .none
  | .bl _ => some .bool
  | .int _ => some .int
  | .str _ => some .str
  | .rep _ => some .str
  | .tup _ => some .tuple
  | .ref i => match h.get i with
    | some (.lst _) => some .list
    | _ => none
  | _ => none
def subT (a b : Ty) : Bool := decide (a = b) || (decide (a = .bool) && decide (b = .int))
def isiF (ds : List D) (h : MH) : Option (D × MH) := match ds with
  | [x, .ty t] => (tyOf h x).map fun u => (.bl (subT u t), h)
  | _ => none
theorem kit_sub (a b : Ty) : kitB a.name b.name = some (subT a b) := by cases a <;> cases b <;> decide +kernel
theorem ok_len : CallOK X G (.builtin "len") lenF := by
  intro pins s σ H vs us Q I r q
  obtain ⟨ρ, h, ds, w, h', R, rs, e, k⟩ := q
  unfold lenF at e
  split at e
  · rename_i x
    rw [Option.map_eq_some_iff] at e
    obtain ⟨(n : Nat), e, e'⟩ := e
    cases e'
    cases rs with
    | cons r1 r2 =>
      cases r2
      refine call_len pins s σ H _ us Q I r ⟨_, n, rfl, ?_, k ρ H _ .refl R (.int _)⟩
      unfold lenN at e
      split at e
      · cases e
        cases r1 with
        | tup sa da => exact .inr ⟨_, sa, da.length⟩
      · rw [Option.map_eq_some_iff] at e
        obtain ⟨xs, e1, e2⟩ := e
        obtain ⟨a1, ys, p1, p2, p3⟩ := R.seq e1
        cases r1 with
        | ref ha =>
          rw [ha] at p1; cases p1
          exact .inl ⟨_, p2, by rw [← e2, p3.length]⟩
      · split at e
        · rename_i hz
          cases e; cases r1
          exact ⟨hz, rfl⟩
        · cases e
      · cases e
  · cases e
theorem ok_abs : CallOK X G (.builtin "abs") absF := by
  intro pins s σ H vs us Q I r q
  obtain ⟨ρ, h, ds, w, h', R, rs, e, k⟩ := q
  unfold absF at e
  split at e
  · cases e
    cases rs with
    | cons r1 r2 =>
      cases r2; cases r1
      exact call_abs pins s σ H _ us Q I r ⟨_, rfl, k ρ H _ .refl R (.int _)⟩
  · cases e
theorem ok_max (hc : X.calm = true) : CallOK X G (.builtin "max") maxF := by
  intro pins s σ H vs us Q I r q
  obtain ⟨ρ, h, ds, w, h', R, rs, e, k⟩ := q
  unfold maxF at e
  split at e
  · cases e
    cases rs with
    | cons r1 r2 =>
      cases r2 with
      | cons r2 r3 =>
        cases r3; cases r1; cases r2
        exact call_max2 hc pins s σ H _ us Q I r ⟨_, _, rfl, k ρ H _ .refl R (.int _)⟩
  · cases e
theorem ok_min (hc : X.calm = true) : CallOK X G (.builtin "min") minF := by
  intro pins s σ H vs us Q I r q
  obtain ⟨ρ, h, ds, w, h', R, rs, e, k⟩ := q
  unfold minF at e
  split at e
  · cases e
    cases rs with
    | cons r1 r2 =>
      cases r2 with
      | cons r2 r3 =>
        cases r3; cases r1; cases r2
        exact call_min2 hc pins s σ H _ us Q I r ⟨_, _, rfl, k ρ H _ .refl R (.int _)⟩
  · cases e
theorem ok_gcd : CallOK X G (.builtin "math.gcd") gcdF := by
  intro pins s σ H vs us Q I r q
  obtain ⟨ρ, h, ds, w, h', R, rs, e, k⟩ := q
  unfold gcdF at e
  split at e
  · cases e
    cases rs with
    | cons r1 r2 =>
      cases r2 with
      | cons r2 r3 =>
        cases r3; cases r1; cases r2
        exact cr_gcd pins s σ H _ us Q I r ⟨_, _, rfl, k ρ H _ .refl R (.int _)⟩
  · cases e
theorem ok_int : CallOK X G (.type "int") intF := by
  intro pins s σ H vs us Q I r q
  obtain ⟨ρ, h, ds, w, h', R, rs, e, k⟩ := q
  unfold intF at e
  split at e
  · cases e
    cases rs with
    | cons r1 r2 =>
      cases r2; cases r1
      exact call_int1 pins s σ H _ us Q I r (.inl ⟨_, rfl, k ρ H _ .refl R (.int _)⟩)
  · cases e
    cases rs with
    | cons r1 r2 =>
      cases r2; cases r1
      exact call_int1 pins s σ H _ us Q I r (.inr ⟨_, rfl, k ρ H _ .refl R (.int _)⟩)
  · cases e
theorem ok_tuple : CallOK X G (.type "tuple") tupleF := by
  intro pins s σ H vs us Q I r q
  obtain ⟨ρ, h, ds, w, h', R, rs, e, k⟩ := q
  unfold tupleF at e
  split at e
  · cases e
    cases rs with
    | cons r1 r2 =>
      cases r2
      cases r1 with
      | tup sa da => exact call_tuple_of pins s σ H _ us Q I r ⟨_, _, rfl, .inr ⟨sa, k ρ H _ .refl R (.tup sa da)⟩⟩
  · rw [Option.map_eq_some_iff] at e
    obtain ⟨xs, e1, e2⟩ := e
    cases e2
    obtain ⟨a1, ys, p1, p2, p3⟩ := R.seq e1
    cases rs with
    | cons r1 r2 =>
      cases r2
      cases r1 with
      | ref ha =>
        rw [ha] at p1; cases p1
        refine call_tuple_of pins s σ H _ us Q I r ⟨_, _, rfl, .inl ⟨p2, fun l nl => ?_⟩⟩
        obtain ⟨f2, r2, q2⟩ := new_tup R nl p3
        exact k _ _ _ f2 r2 q2
  · cases e
theorem ok_list : CallOK X G (.type "list") listF := by
  intro pins s σ H vs us Q I r q
  obtain ⟨ρ, h, ds, w, h', R, rs, e, k⟩ := q
  unfold listF at e
  split at e
  · cases e
    cases rs with
    | cons r1 r2 =>
      cases r2
      cases r1 with
      | tup sa da =>
        refine call_list_of pins s σ H _ us Q I r ⟨_, _, rfl, .inr sa, fun l nl => ?_⟩
        obtain ⟨f2, r2, q2⟩ := new_lst R nl da
        exact k _ _ _ f2 r2 q2
  · rw [Option.map_eq_some_iff] at e
    obtain ⟨xs, e1, e2⟩ := e
    cases e2
    obtain ⟨a1, ys, p1, p2, p3⟩ := R.seq e1
    cases rs with
    | cons r1 r2 =>
      cases r2
      cases r1 with
      | ref ha =>
        rw [ha] at p1; cases p1
        refine call_list_of pins s σ H _ us Q I r ⟨_, _, rfl, .inl p2, fun l nl => ?_⟩
        obtain ⟨f2, r2, q2⟩ := new_lst R nl p3
        exact k _ _ _ f2 r2 q2
  · cases e
theorem boolsV : ∀ {ds : List D} {vs : List V} {bs : List Bool}, RDs K G ρ H ds vs → boolsD ds = some bs → vs = bs.map V.bl
  | [], _, bs, .nil, e => by cases e; rfl
  | d :: ds, _, bs, .cons a b, e => by
    cases a with
    | bl k =>
      simp only [boolsD, Option.map_eq_some_iff] at e
      obtain ⟨cs, e1, rfl⟩ := e
      rw [List.map_cons, boolsV b e1]
    | _ => cases e
theorem intsV : ∀ {ds : List D} {vs : List V} {bs : List Int}, RDs K G ρ H ds vs → intsD ds = some bs → vs = bs.map V.int
  | [], _, bs, .nil, e => by cases e; rfl
  | d :: ds, _, bs, .cons a b, e => by
    cases a with
    | int k =>
      simp only [intsD, Option.map_eq_some_iff] at e
      obtain ⟨cs, e1, rfl⟩ := e
      rw [List.map_cons, intsV b e1]
    | _ => cases e
theorem ok_all (hc : X.calm = true) : CallOK X G (.builtin "all") allF := by
  intro pins s σ H vs us Q I r q
  obtain ⟨ρ, h, ds, w, h', R, rs, e, k⟩ := q
  unfold allF at e
  split at e
  · simp only [Option.map_eq_some_iff, Option.bind_eq_some_iff] at e
    obtain ⟨bs, ⟨xs, e1, e2⟩, e3⟩ := e
    cases e3
    obtain ⟨a1, ys, p1, p2, p3⟩ := R.seq e1
    cases rs with
    | cons r1 r2 =>
      cases r2
      cases r1 with
      | ref ha =>
        rw [ha] at p1; cases p1
        rw [boolsV p3 e2] at p2
        exact cr_all hc pins s σ H _ us Q I r ⟨_, bs, rfl, p2, k ρ H _ .refl R (.bl _)⟩
  · cases e
theorem ok_any (hc : X.calm = true) : CallOK X G (.builtin "any") anyF := by
  intro pins s σ H vs us Q I r q
  obtain ⟨ρ, h, ds, w, h', R, rs, e, k⟩ := q
  unfold anyF at e
  split at e
  · simp only [Option.map_eq_some_iff, Option.bind_eq_some_iff] at e
    obtain ⟨bs, ⟨xs, e1, e2⟩, e3⟩ := e
    cases e3
    obtain ⟨a1, ys, p1, p2, p3⟩ := R.seq e1
    cases rs with
    | cons r1 r2 =>
      cases r2
      cases r1 with
      | ref ha =>
        rw [ha] at p1; cases p1
        rw [boolsV p3 e2] at p2
        exact cr_any hc pins s σ H _ us Q I r ⟨_, bs, rfl, p2, k ρ H _ .refl R (.bl _)⟩
  · cases e
theorem ok_sum (hc : X.calm = true) : CallOK X G (.builtin "sum") sumF := by
  intro pins s σ H vs us Q I r q
  obtain ⟨ρ, h, ds, w, h', R, rs, e, k⟩ := q
  unfold sumF at e
  split at e
  · simp only [Option.map_eq_some_iff, Option.bind_eq_some_iff] at e
    obtain ⟨bs, ⟨xs, e1, e2⟩, e3⟩ := e
    cases e3
    obtain ⟨a1, ys, p1, p2, p3⟩ := R.seq e1
    cases rs with
    | cons r1 r2 =>
      cases r2
      cases r1 with
      | ref ha =>
        rw [ha] at p1; cases p1
        rw [intsV p3 e2] at p2
        exact cr_sum hc pins s σ H _ us Q I r ⟨_, bs, rfl, p2, k ρ H _ .refl R (.int _)⟩
  · cases e
theorem tyOf_ok {h : MH} (R : Rel K G ρ h H) {d : D} {x : V} {t : Ty} (r : RD K G ρ H d x) (e : tyOf h d = some t) : TyX K H x (.type t.name) := by
  cases r with
  | non => cases e; exact .base .non
  | bl b => cases e; exact .base (.bl b)
  | int i => cases e; exact .base (.int i)
  | str y => cases e; exact .base (.str y)
  | rep y => cases e; exact .base (.str _)
  | @tup a ds xs sa da =>
    cases e
    rcases sa with (q | ⟨o, q⟩) | ⟨o, its, n, q1, q2, _⟩
    · exact .base (.tup q)
    · exact .fTuple q
    · exact .kTuple q1 q2
  | @ref i a ha =>
    simp only [tyOf] at e
    cases eo : h.get i with
    | none => rw [eo] at e; cases e
    | some o =>
      rw [eo] at e
      cases o with
      | lst ds =>
        cases e
        obtain ⟨a1, ys, p1, p2, p3⟩ := R.lst eo
        rw [ha] at p1; cases p1
        exact .base (.lst p2)
      | _ => cases e
  | ty n => cases e
  | stat n => cases e
theorem ok_isi : CallOK X G (.builtin "isinstance") isiF := by
  intro pins s σ H vs us Q I r q
  obtain ⟨ρ, h, ds, w, h', R, rs, e, k⟩ := q
  unfold isiF at e
  split at e
  · rename_i x t
    rw [Option.map_eq_some_iff] at e
    obtain ⟨u, e, e'⟩ := e
    cases e'
    cases rs with
    | cons r1 r2 =>
      cases r2 with
      | cons r2 r3 =>
        cases r3; cases r2
        exact call_isi pins s σ H _ us Q I r ⟨_, _, .type u.name, _, _, rfl, .ty t.name, tyOf_ok R r1 e, kit_ty (kit_sub u t), k ρ H _ .refl R (.bl _)⟩
  · cases e
end
end MM

set_option Elab.async false
set_option linter.all false
set_option maxRecDepth 100000
set_option maxHeartbeats 4000000
set_option autoImplicit false
/-! statements, targets, loops, comprehensions, defs -/
namespace MM
open PySem PySem.Spec PyProof.Rows L2

inductive SR where
  | nx (e : ME) (h : MH) | rt (v : D) (h : MH) | bk (e : ME) (h : MH) | ct (e : ME) (h : MH) | exc (C : Nat) (fs : List (Str × D)) (e : ME) (h : MH) | bad
abbrev Ms := ME → MH → SR
def Res.toS {α : Type} (r : Res α) (env : ME) (f : α → MH → SR) : SR := match r with
  | .ok a h => f a h
  | .exc C fs h => .exc C fs env h
  | .bad => .bad
@[simp] theorem Res.toS_ok {α : Type} (a : α) (h : MH) (env : ME) (f : α → MH → SR) : (Res.ok a h).toS env f = f a h := rfl
@[simp] theorem Res.toS_exc {α : Type} (C : Nat) (fs : List (Str × D)) (h : MH) (env : ME) (f : α → MH → SR) : (Res.exc C fs h).toS env f = .exc C fs env h := rfl
@[simp] theorem Res.toS_bad {α : Type} (env : ME) (f : α → MH → SR) : (Res.bad : Res α).toS env f = .bad := rfl
def WpS (K : PySem.W.Frag) (G : Nat → Option Addr) (W : WX) (ρ : List Addr) (H : Hp) (r : SR) (D : Ends) : Prop := match r with
  | .nx e h' => ∀ (ρ' : List Addr) (H' : Hp) (σ' : L2.St), Fut K ρ H ρ' H' → Rel K G ρ' h' H' → REnv K G ρ' H' e σ' → D.nx σ' H'
  | .bk e h' => ∀ (ρ' : List Addr) (H' : Hp) (σ' : L2.St), Fut K ρ H ρ' H' → Rel K G ρ' h' H' → REnv K G ρ' H' e σ' → D.bk σ' H'
  | .ct e h' => ∀ (ρ' : List Addr) (H' : Hp) (σ' : L2.St), Fut K ρ H ρ' H' → Rel K G ρ' h' H' → REnv K G ρ' H' e σ' → D.ct σ' H'
  | .rt v h' => ∀ (ρ' : List Addr) (H' : Hp) (v' : V), Fut K ρ H ρ' H' → Rel K G ρ' h' H' → RD K G ρ' H' v v' → D.rt v' H'
  | .exc C fs e h' => ∀ (ρ' : List Addr) (H' : Hp) (σ' : L2.St) (c : Addr) (d : Option Addr), G C = some c → Fut K ρ H ρ' H' → Rel K G ρ' h' H' → REnv K G ρ' H' e σ' → RX K G ρ' H' fs d → W (.ref c) d σ' H'
  | .bad => False
def RdS (K : PySem.W.Frag) (G : Nat → Option Addr) (W : WX) (m : Ms) : TS := fun D σ H => ∃ (ρ : List Addr) (h : MH) (env : ME), Rel K G ρ h H ∧ REnv K G ρ H env σ ∧ WpS K G W ρ H (m env h) D
section
variable {K : PySem.W.Frag} {G : Nat → Option Addr} {W : WX} {ρ ρ' : List Addr} {H H' : Hp} {h h' : MH} {env : ME} {σ : L2.St}
theorem WpS.fut {r : SR} {D : Ends} (f : Fut K ρ H ρ' H') (w : WpS K G W ρ H r D) : WpS K G W ρ' H' r D := by
  cases r with
  | nx e h1 => exact fun ρ2 H2 σ f2 => w ρ2 H2 σ (f.trans f2)
  | bk e h1 => exact fun ρ2 H2 σ f2 => w ρ2 H2 σ (f.trans f2)
  | ct e h1 => exact fun ρ2 H2 σ f2 => w ρ2 H2 σ (f.trans f2)
  | rt e h1 => exact fun ρ2 H2 σ f2 => w ρ2 H2 σ (f.trans f2)
  | exc C fs e h1 => exact fun ρ2 H2 σ c d eg f2 => w ρ2 H2 σ c d eg (f.trans f2)
  | bad => exact w
theorem WpS.bind {α β : Type} {RA : List Addr → Hp → α → β → Prop} {r : Res α} {f : α → MH → SR} {Q1 : β → Hp → Prop} {D : Ends} (w : WpS K G W ρ H (r.toS env f) D) (re : REnv K G ρ H env σ)
    (k : ∀ (a : α) (h1 : MH) (ρ1 : List Addr) (H1 : Hp) (b : β), Fut K ρ H ρ1 H1 → Rel K G ρ1 h1 H1 → RA ρ1 H1 a b → REnv K G ρ1 H1 env σ → WpS K G W ρ1 H1 (f a h1) D → Q1 b H1) : Wp K G RA ρ H r Q1 (fun c d H' => W c d σ H') := by
  cases r with
  | ok a h1 => exact fun ρ1 H1 b f1 r1 q1 => k a h1 ρ1 H1 b f1 r1 q1 (re.fut f1) (WpS.fut f1 w)
  | exc C fs h1 => exact fun ρ1 H1 c d eg f1 r1 hx => w ρ1 H1 σ c d eg f1 r1 (re.fut f1) hx
  | bad => exact w
theorem WpS.go {e : ME} {D : Ends} (w : WpS K G W ρ H (.nx e h) D) (r : Rel K G ρ h H) (re : REnv K G ρ H e σ) : D.nx σ H := w ρ H σ .refl r re
end

section
variable {X : Cx} {G : Nat → Option Addr} {W : WX} {e : Expr} {pos : Pos}
theorem PS.imp {st : Stmt} {t t' : TS} (p : PS X st t) (k : ∀ D σ H, t' D σ H → t D σ H) : PS X st t' := ⟨fun pins s σ H D I q => p.run pins s σ H D I (k _ _ _ q)⟩
theorem PSs.imp {st : List Stmt} {t t' : TS} (p : PSs X st t) (k : ∀ D σ H, t' D σ H → t D σ H) : PSs X st t' := ⟨fun pins s σ H D I q => p.run pins s σ H D I (k _ _ _ q)⟩
def sNil : Ms := fun env h => .nx env h
def sSeq (a b : Ms) : Ms := fun env h => match a env h with
  | .nx e h1 => b e h1
  | .rt v h1 => .rt v h1
  | .bk e h1 => .bk e h1
  | .ct e h1 => .ct e h1
  | .exc C fs e h1 => .exc C fs e h1
  | .bad => .bad
def sBk : Ms := fun env h => .bk env h
def sCt : Ms := fun env h => .ct env h
def sEx (m : Mx) : Ms := fun env h => (m env h).toS env fun _ h1 => .nx env h1
def sRet (m : Mx) : Ms := fun env h => (m env h).toS env fun v h1 => .rt v h1
def sRetN : Ms := fun _ h => .rt .non h
def sIf (t : Mt) (a b : Ms) : Ms := fun env h => (t env h).toS env fun k h1 => match k with
  | true => a env h1
  | false => b env h1
def sSet (i : Nat) (m : Mx) : Ms := fun env h => (m env h).toS env fun v h1 => .nx (env.set i (some v)) h1
def sAug (i : Nat) (f : D → D → MH → Option (D × MH)) (m : Mx) : Ms := fun env h => match env[i]? with
  | some (some x) => (m env h).toS env fun y h1 => match f x y h1 with
    | some (z, h2) => .nx (env.set i (some z)) h2
    | none => .bad
  | _ => .bad
theorem ms_nil : PSs X [] (RdS X.K G W sNil) := PSs.imp pss_nil fun D σ H ⟨ρ, h, env, r, re, w⟩ => w.go r re
theorem ms_cons {st : Stmt} {rest : List Stmt} {a b : Ms} (h1 : PS X st (RdS X.K G W a)) (h2 : PSs X rest (RdS X.K G W b)) : PSs X (st :: rest) (RdS X.K G W (sSeq a b)) := by
  refine PSs.imp (pss_cons h1 h2) fun D σ H q => ?_
  obtain ⟨ρ, h, env, r, re, w⟩ := q
  refine ⟨ρ, h, env, r, re, ?_⟩
  unfold sSeq at w
  cases e1 : a env h with
  | nx e h1 => rw [e1] at w; exact fun ρ1 H1 σ1 f1 r1 re1 => ⟨ρ1, h1, e, r1, re1, WpS.fut f1 w⟩
  | rt v h1 => rw [e1] at w; exact w
  | bk e h1 => rw [e1] at w; exact w
  | ct e h1 => rw [e1] at w; exact w
  | exc C fs e h1 => rw [e1] at w; exact w
  | bad => rw [e1] at w; exact w.elim
theorem ms_one {st : Stmt} {a : Ms} (h1 : PS X st (RdS X.K G W a)) : PSs X [st] (RdS X.K G W a) := pss_one h1
theorem ms_pass : PS X (.Pass pos) (RdS X.K G W sNil) := PS.imp ps_pass fun D σ H ⟨ρ, h, env, r, re, w⟩ => w.go r re
theorem ms_break : PS X (.Break pos) (RdS X.K G W sBk) := PS.imp ps_break fun D σ H ⟨ρ, h, env, r, re, w⟩ => w ρ H σ .refl r re
theorem ms_continue : PS X (.Continue pos) (RdS X.K G W sCt) := PS.imp ps_continue fun D σ H ⟨ρ, h, env, r, re, w⟩ => w ρ H σ .refl r re
theorem ms_doc {x j} {p p' : Pos} : PS X (.Expr (.Constant (.str x) j p) p') (RdS X.K G W sNil) := PS.imp ps_doc fun D σ H ⟨ρ, h, env, r, re, w⟩ => w.go r re
theorem ms_expr {m : Mx} (he : PE X e (RdE X.K G W m)) (hs : swapsWith e none pos.line X.env = pure false := by rfl) : PS X (.Expr e pos) (RdS X.K G W (sEx m)) := by
  refine PS.imp (ps_expr he hs) fun D σ H q => ?_
  obtain ⟨ρ, h, env, r, re, w⟩ := q
  exact ⟨ρ, h, env, r, re, WpS.bind w re fun x h1 ρ1 H1 vx f1 r1 q1 re1 w1 => w1.go r1 re1⟩
theorem ms_ret {m : Mx} (he : PE X e (RdE X.K G W m)) : PS X (.Return (some e) pos) (RdS X.K G W (sRet m)) := by
  refine PS.imp (ps_ret he) fun D σ H q => ?_
  obtain ⟨ρ, h, env, r, re, w⟩ := q
  exact ⟨ρ, h, env, r, re, WpS.bind w re fun x h1 ρ1 H1 vx f1 r1 q1 re1 w1 => w1 ρ1 H1 vx .refl r1 q1⟩
theorem ms_retN : PS X (.Return none pos) (RdS X.K G W sRetN) := PS.imp ps_retN fun D σ H ⟨ρ, h, env, r, re, w⟩ => w ρ H _ .refl r .non
theorem ms_if {c : Expr} {a b : List Stmt} {t : Mt} {ma mb : Ms} (hc : PT X c (RdT X.K G W t)) (ha : PSs X a (RdS X.K G W ma)) (hb : PSs X b (RdS X.K G W mb)) : PS X (.If c a b pos) (RdS X.K G W (sIf t ma mb)) := by
  refine PS.imp (ps_if hc ha hb) fun D σ H q => ?_
  obtain ⟨ρ, h, env, r, re, w⟩ := q
  refine ⟨ρ, h, env, r, re, WpS.bind w re fun k h1 ρ1 H1 b f1 r1 q1 re1 w1 => ?_⟩
  subst q1
  cases k with
  | true => exact ⟨ρ1, h1, env, r1, re1, w1⟩
  | false => exact ⟨ρ1, h1, env, r1, re1, w1⟩
theorem ms_set {i : Nat} {x : Str} {m : Mx} {pos' : Pos} (hN : X.N.Nodup) (hi : X.N[i]? = some x) (hx : Loc X.env.scope x) (he : PE X e (RdE X.K G W m)) (hs : swapsWith e (some (.Name x pos')) pos.line X.env = pure false := by rfl)
    (hf : X.fn x = true ∨ X.env.scope.names.lookup x = some .local := by first | exact .inl rfl | exact .inr rfl | assumption) : PS X (.Assign [.Name x pos'] e pos) (RdS X.K G W (sSet i m)) := by
  refine PS.imp (ps_set hN hi hx he hs hf) fun D σ H q => ?_
  obtain ⟨ρ, h, env, r, re, w⟩ := q
  exact ⟨ρ, h, env, r, re, WpS.bind w re fun x h1 ρ1 H1 vx f1 r1 q1 re1 w1 => w1.go r1 (re1.set q1)⟩
theorem ms_aug {i : Nat} {x : Str} {m : Mx} {op : Operator} {f : D → D → MH → Option (D × MH)} {pos' : Pos} (ho : OpOK X G (inplaceOp op) f) (hN : X.N.Nodup) (hi : X.N[i]? = some x) (hx : Loc X.env.scope x) (he : PE X e (RdE X.K G W m))
    (hf : X.fn x = true ∨ X.env.scope.names.lookup x = some .local := by first | exact .inl rfl | exact .inr rfl | assumption) : PS X (.AugAssign (.Name x pos') op e pos) (RdS X.K G W (sAug i f m)) := by
  refine PS.imp (ps_aug hN hi hx he (ti := rOp X.K G f) ho hf) fun D σ H q => ?_
  obtain ⟨ρ, h, env, r, re, w⟩ := q
  unfold sAug at w
  split at w
  · rename_i d ed
    obtain ⟨v, e1, e2⟩ := re.at_ i d ed
    refine ⟨v, e1, ρ, h, env, r, re, WpS.bind w re fun y h1 ρ1 H1 vy f1 r1 q1 re1 w1 => ?_⟩
    cases ef : f d y h1 with
    | none => rw [ef] at w1; exact w1.elim
    | some p =>
      rw [ef] at w1
      exact ⟨ρ1, h1, d, y, p.1, p.2, r1, e2.fut f1, q1, by rw [ef], fun ρ2 H2 v2 f2 r2 q2 => w1 ρ2 H2 _ f2 r2 ((re1.fut f2).set q2)⟩
  · exact w.elim

/-! ### targets -/
inductive Tg where
  | nm (i : Nat) | tp (ts : List Tg)
def items (h : MH) : D → Option (List D)
  | .tup ds => some ds
  | .ref i => h.seq i
  | _ => none
mutual
def asg (h : MH) : Tg → D → ME → Option ME
  | .nm i, d, env => some (env.set i (some d))
  | .tp ts, d, env => match items h d with
    | some ds => asgs h ts ds env
    | none => none
def asgs (h : MH) : List Tg → List D → ME → Option ME
  | [], [], env => some env
  | t :: ts, d :: ds, env => match asg h t d env with
    | some e1 => asgs h ts ds e1
    | none => none
  | _, _, _ => none
end
mutual
def Tg.slots : Tg → List Nat
  | .nm i => [i]
  | .tp ts => Tg.slotss ts
def Tg.slotss : List Tg → List Nat
  | [] => []
  | t :: ts => t.slots ++ Tg.slotss ts
end
theorem wipe_set {σ : L2.St} {i : Nat} {x : Option V} : ∀ {vs : List Nat}, i ∈ vs → wipe (σ.set i x) vs = wipe σ vs
  | v :: vs, hm => by
    unfold wipe
    by_cases hi : i ∈ vs
    · rw [wipe_set hi]
    · have e : i = v := by
        rcases List.mem_cons.mp hm with z | z
        · exact z
        · exact absurd z hi
      subst e
      clear hm
      induction vs with
      | nil => unfold wipe; rw [List.set_set]
      | cons a as ih =>
        have ha : a ≠ i := fun z => hi (by rw [z]; exact List.mem_cons_self)
        have has : i ∉ as := fun z => hi (List.mem_cons_of_mem _ z)
        have := ih has
        unfold wipe
        rw [List.set_comm _ _ ha, this, List.set_comm _ _ ha]
def RdG (K : PySem.W.Frag) (G : Nat → Option Addr) (t : Tg) : TG := fun v σ H Q => ∃ (ρ : List Addr) (h : MH) (env : ME) (d : D) (e' : ME), Rel K G ρ h H ∧ REnv K G ρ H env σ ∧ RD K G ρ H d v ∧ asg h t d env = some e' ∧
  ∀ σ', REnv K G ρ H e' σ' → (∀ vs : List Nat, (∀ i ∈ t.slots, i ∈ vs) → wipe σ' vs = wipe σ vs) → Q σ' H
def RdGs (K : PySem.W.Frag) (G : Nat → Option Addr) (ts : List Tg) : TGs := fun vs σ H Q => ∃ (ρ : List Addr) (h : MH) (env : ME) (ds : List D) (e' : ME), Rel K G ρ h H ∧ REnv K G ρ H env σ ∧ RDs K G ρ H ds vs ∧ asgs h ts ds env = some e' ∧
  ∀ σ', REnv K G ρ H e' σ' → (∀ vs : List Nat, (∀ i ∈ Tg.slotss ts, i ∈ vs) → wipe σ' vs = wipe σ vs) → Q σ' H
theorem PG.imp {tg : Expr} {t t' : TG} (p : PG X tg t) (k : ∀ v σ H Q, t' v σ H Q → t v σ H Q) : PG X tg t' := ⟨fun pins s σ H v u Q I r q => p.run pins s σ H v u Q I r (k _ _ _ _ q)⟩
theorem PGs.imp {tg : List Expr} {t t' : TGs} (p : PGs X tg t) (k : ∀ v σ H Q, t' v σ H Q → t v σ H Q) : PGs X tg t' := ⟨fun pins s σ H v u Q I r q => p.run pins s σ H v u Q I r (k _ _ _ _ q)⟩
theorem PG.or {tg : Expr} {t t' : TG} (p : PG X tg t) (p' : PG X tg t') : PG X tg (fun v σ H Q => t v σ H Q ∨ t' v σ H Q) := ⟨fun pins s σ H v u Q I r q => q.elim (p.run pins s σ H v u Q I r) (p'.run pins s σ H v u Q I r)⟩
theorem mg_nm (i : Nat) {x : Str} (hN : X.N.Nodup) (hi : X.N[i]? = some x) (hx : Loc X.env.scope x) (hf : X.fn x = true ∨ X.env.scope.names.lookup x = some .local := by first | exact .inl rfl | exact .inr rfl | assumption) : PG X (.Name x pos) (RdG X.K G (.nm i)) := by
  refine PG.imp (pg_name hN hi hx hf) fun v σ H Q q => ?_
  obtain ⟨ρ, h, env, d, e', r, re, rd, ea, k⟩ := q
  cases ea
  exact k _ (re.set rd) fun vs hm => wipe_set (hm i (by simp [Tg.slots]))
theorem mgs_nil : PGs X [] (RdGs X.K G []) := by
  refine PGs.imp pgs_nil fun v σ H Q q => ?_
  obtain ⟨ρ, h, env, ds, e', r, re, rd, ea, k⟩ := q
  cases rd with
  | nil => cases ea; exact ⟨rfl, k σ re fun _ _ => rfl⟩
  | cons a b => cases ea
theorem mgs_cons {e : Expr} {es : List Expr} {t : Tg} {ts : List Tg} (h1 : PG X e (RdG X.K G t)) (h2 : PGs X es (RdGs X.K G ts))
    (hs : (assignEach (e :: es) X.env).map (·.2) = assign e X.env :: (assignEach es X.env).map (·.2) := by rfl) : PGs X (e :: es) (RdGs X.K G (t :: ts)) := by
  refine PGs.imp (pgs_cons h1 h2 hs) fun v σ H Q q => ?_
  obtain ⟨ρ, h, env, ds, e', r, re, rd, ea, k⟩ := q
  cases rd with
  | nil => cases ea
  | cons a b =>
    simp only [asgs] at ea
    split at ea
    · rename_i e1 e1q
      refine ⟨_, _, rfl, ρ, h, env, _, e1, r, re, a, e1q, fun σ1 re1 wp1 => ?_⟩
      refine ⟨ρ, h, e1, _, e', r, re1, b, ea, fun σ2 re2 wp2 => ?_⟩
      refine k σ2 re2 fun vs hm => ?_
      rw [wp2 vs fun i hi => hm i (by simp [Tg.slotss, hi]), wp1 vs fun i hi => hm i (by simp [Tg.slotss, hi])]
    · cases ea
theorem mg_tp {es : List Expr} {k : Nat} {ts : List Tg} {n : Nat} (hc : X.calm = true) (h : PGs X es (RdGs X.K G ts)) (hl : ts.length = n)
    (hn : (assignEach es X.env).length = n := by rfl) (hst : (assignEach es X.env).findIdx? (·.1) = none := by rfl) : PG X (.Tuple es k pos) (RdG X.K G (.tp ts)) := by
  refine PG.imp (PG.or (pg_tup hc h hn hst) (pg_unl hc h hn hst)) fun v σ H Q q => ?_
  obtain ⟨ρ, h, env, d, e', r, re, rd, ea, kk⟩ := q
  have len : ∀ (ts : List Tg) (ds : List D) (e e' : ME), asgs h ts ds e = some e' → ds.length = ts.length := by
    intro ts
    induction ts with
    | nil => intro ds e e' q; cases ds with
      | nil => rfl
      | cons a b => cases q
    | cons t ts ih => intro ds e e' q; cases ds with
      | nil => cases q
      | cons a b =>
        simp only [asgs] at q
        split at q
        · rw [List.length_cons, List.length_cons, ih _ _ _ q]
        · cases q
  simp only [asg] at ea
  split at ea
  · rename_i ds ei
    cases rd with
    | tup sa da =>
      cases ei
      exact .inl ⟨_, _, rfl, sa, by rw [← da.length, len _ _ _ _ ea, hl], ρ, h, env, _, e', r, re, da, ea, fun σ' a b => kk σ' a fun vs hm => b vs fun i hi => hm i (by simpa [Tg.slots] using hi)⟩
    | ref ha =>
      obtain ⟨a1, ys, p1, p2, p3⟩ := r.seq ei
      rw [ha] at p1; cases p1
      exact .inr ⟨_, _, rfl, p2, by rw [← p3.length, len _ _ _ _ ea, hl], ρ, h, env, _, e', r, re, p3, ea, fun σ' a b => kk σ' a fun vs hm => b vs fun i hi => hm i (by simpa [Tg.slots] using hi)⟩
    | _ => cases ei
  · cases ea
/-- a, b = e -/
def sAsg (t : Tg) (m : Mx) : Ms := fun env h => (m env h).toS env fun v h1 => match asg h1 t v env with
  | some e1 => .nx e1 h1
  | none => .bad
theorem ms_asg {tg : Expr} {t : Tg} {m : Mx} (he : PE X e (RdE X.K G W m)) (hg : PG X tg (RdG X.K G t)) (hs : swapsWithSole [tg] e pos.line X.env = pure false := by rfl) (hw : swappedStores [tg] e X.env = pure none := by rfl)
    (h1 : (assignEach [tg] X.env).map (·.2) = [assign tg X.env] := by rfl) : PS X (.Assign [tg] e pos) (RdS X.K G W (sAsg t m)) := by
  refine PS.imp (ps_asg he hg hs hw h1) fun D σ H q => ?_
  obtain ⟨ρ, h, env, r, re, w⟩ := q
  refine ⟨ρ, h, env, r, re, WpS.bind w re fun x h1 ρ1 H1 vx f1 r1 q1 re1 w1 => ?_⟩
  cases ea : asg h1 t x env with
  | none => rw [ea] at w1; exact w1.elim
  | some e1 =>
    rw [ea] at w1
    exact ⟨ρ1, h1, env, x, e1, r1, re1, q1, ea, fun σ' re' _ => w1.go r1 re'⟩
/-- a, b = x, y (plain names): no tuple is made -/
def sPar (i j : Nat) (ms : Ma) : Ms := fun env h => (ms env h).toS env fun vs h1 => match vs with
  | [v, w] => .nx ((env.set i (some v)).set j (some w)) h1
  | _ => .bad
theorem ms_par {i j : Nat} {x y : Str} {a b : Expr} {ms : Ma} {px py pt : Pos} {kt k2 pt2} (hc : X.calm = true) (hN : X.N.Nodup) (hi : X.N[i]? = some x) (hj : X.N[j]? = some y) (hij : i ≠ j)
    (hx : X.env.scope.names.lookup x = some .local) (hy : X.env.scope.names.lookup y = some .local) (ha : PA X [a, b] (RdA X.K G W ms))
    (hw : swappedStores [.Tuple [.Name x px, .Name y py] kt pt] (.Tuple [a, b] k2 pt2) X.env = pure (some [x, y]) := by rfl)
    (hs : swapsWithSole [.Tuple [.Name x px, .Name y py] kt pt] (.Tuple [a, b] k2 pt2) pos.line X.env = pure false := by rfl) :
    PS X (.Assign [.Tuple [.Name x px, .Name y py] kt pt] (.Tuple [a, b] k2 pt2) pos) (RdS X.K G W (sPar i j ms)) := by
  refine PS.imp (ps_par hc hN hi hj hij hx hy ha hw hs) fun D σ H q => ?_
  obtain ⟨ρ, h, env, r, re, w⟩ := q
  refine ⟨ρ, h, env, r, re, WpS.bind w re fun vs h1 ρ1 H1 us f1 r1 q1 re1 w1 => ?_⟩
  cases q1 with
  | nil => exact w1.elim
  | cons a1 b1 =>
    cases b1 with
    | nil => exact w1.elim
    | cons a2 b2 =>
      cases b2 with
      | nil => exact ⟨_, _, rfl, w1.go r1 ((re1.set a1).set a2)⟩
      | cons a3 b3 => exact w1.elim
/-- o[i] = e, a list -/
def setD (o i v : D) (h : MH) : Option MH := match o, i with
  | .ref j, .int k => match h.get j with
    | some (.lst xs) => match ixN xs.length k with
      | some n => some (h.set j (.lst (xs.set n v)))
      | none => none
    | _ => none
  | _, _ => none
def sSub (mo mi m : Mx) : Ms := fun env h => (m env h).toS env fun v h1 => (mo env h1).toS env fun o h2 => (mi env h2).toS env fun i h3 => match setD o i v h3 with
  | some h4 => .nx env h4
  | none => .bad
theorem ms_sub {o i : Expr} {mo mi m : Mx} {p : Pos} (he : PE X e (RdE X.K G W m)) (ho : PE X o (RdE X.K G W mo)) (hi : PE X i (RdE X.K G W mi))
    (ha : ∀ v, assign (.Subscript o i p) X.env v = (do
      let ov ← holding [v] (eval o X.env)
      let iv ← holding [v, ov] (eval i X.env)
      standAt p
      holding [v, ov, iv] (setItem ov iv v)
      release [v, ov, iv] []) := by intro _; rfl) (hs : swapsWithSole [.Subscript o i p] e pos.line X.env = pure false := by rfl) (hw : swappedStores [.Subscript o i p] e X.env = pure none := by rfl)
    (h1 : (assignEach [.Subscript o i p] X.env).map (·.2) = [assign (.Subscript o i p) X.env] := by rfl) : PS X (.Assign [.Subscript o i p] e pos) (RdS X.K G W (sSub mo mi m)) := by
  refine PS.imp (ps_asg he (pg_sub ho hi set_list ha) hs hw h1) fun D σ H q => ?_
  obtain ⟨ρ, h, env, r, re, w⟩ := q
  refine ⟨ρ, h, env, r, re, WpS.bind w re fun x h1 ρ1 H1 vx f1 r1 q1 re1 w1 => ?_⟩
  refine ⟨ρ1, h1, env, r1, re1, WpS.bind w1 re1 fun o h2 ρ2 H2 vo f2 r2 q2 re2 w2 => ?_⟩
  refine ⟨ρ2, h2, env, r2, re2, WpS.bind w2 re2 fun i h3 ρ3 H3 vi f3 r3 q3 re3 w3 => ?_⟩
  cases es : setD o i x h3 with
  | none => rw [es] at w3; exact w3.elim
  | some h4 =>
    rw [es] at w3
    unfold setD at es
    split at es
    · split at es
      · rename_i xs g1
        split at es
        · rename_i n en
          cases es
          obtain ⟨a1, ys, p1, p2, p3⟩ := r3.lst g1
          have q2' := q2.fut f3
          cases q3
          cases q2' with
          | ref ha =>
            rw [ha] at p1; cases p1
            refine ⟨_, ys, _, n, rfl, rfl, p2, by rw [← p3.length]; exact en, ?_⟩
            have fu : Fut X.K ρ3 H3 ρ3 (upd H3 a1 (.lst (ys.set n vx))) := Fut.updS ha (by rw [p2]; exact .lst _)
            have rs : RDs X.K G ρ3 H3 (xs.set n x) (ys.set n vx) := p3.set n ((q1.fut f2).fut f3)
            exact w3 ρ3 _ σ fu (r3.set g1 rfl rfl ha (by rw [p2]; exact .lst _) ⟨_, upd_same, rs.fut fu⟩) (re3.fut fu)
        · cases es
      · cases es
    · cases es

/-! ### what is walked -/
/-- a list or a tuple, to be walked -/
inductive ZS where
  | l (i n : Nat) | t (xs : List D)
def ZS.n : ZS → Nat
  | .l _ n => n
  | .t xs => xs.length
inductive MI where
  | lst (i n : Nat) | tup (xs : List D) | rng (lo : Int) (n : Nat) | enm (i n : Nat) | zipL (i j n : Nat) | zipT (xs ys : List D) | dks (i n : Nat) | dvs (i n : Nat) | rngc (lo c : Int) (n : Nat) | enk (s : ZS) (k : Int) | zp (s t : ZS) | dis (i n : Nat)
def MI.n : MI → Nat
  | .lst _ n => n
  | .tup xs => xs.length
  | .rng _ n => n
  | .enm _ n => n
  | .zipL _ _ n => n
  | .zipT xs ys => min xs.length ys.length
  | .dks _ n => n
  | .dvs _ n => n
  | .rngc _ _ n => n
  | .enk s _ => s.n
  | .zp s t => min s.n t.n
  | .dis _ n => n
def keyD : Key → D
  | .inl i => .int i
  | .inr x => .str x
/-- the keys, the values of a locked dict -/
def MI.keysS (h : MH) (i : Nat) : Option (List D) := match h.get i with
  | some (.rct kvs) => some (kvs.map fun p => keyD p.1)
  | some (.rdt kvs) => some (kvs.map fun p => p.1)
  | _ => none
def MI.valsS (h : MH) (i : Nat) : Option (List D) := match h.get i with
  | some (.rct kvs) => some (kvs.map fun p => p.2)
  | _ => none
/-- as long as it was -/
def eqL (o : Option (List D)) (n : Nat) : Bool := match o with
  | some xs => eqLen xs n
  | none => false
theorem eqL_some {o : Option (List D)} {n : Nat} (h : eqL o n = true) : ∃ xs, o = some xs ∧ xs.length = n := by
  unfold eqL at h
  split at h
  · exact ⟨_, rfl, eqLen_iff.mp h⟩
  · cases h
def MI.prsS (h : MH) (i : Nat) : Option (List D) := match h.get i with
  | some (.rct kvs) => some (kvs.map fun p => .tup [keyD p.1, p.2])
  | _ => none
def MI.seqN (h : MH) (i n : Nat) : Option (List D) := match h.seq i with
  | some xs => if xs.length = n then some xs else none
  | none => none
def ZS.items (h : MH) : ZS → Option (List D)
  | .l i n => MI.seqN h i n
  | .t xs => some xs
def ZS.see (h : MH) : ZS → Option (List D)
  | .l i _ => h.seq i
  | .t xs => some xs
def MI.at (h : MH) (k : Nat) : MI → Option D
  | .lst i _ => match h.seq i with
    | some xs => xs[k]?
    | none => none
  | .tup xs => xs[k]?
  | .rng lo _ => some (.int (lo + k))
  | .enm i _ => match h.seq i with
    | some xs => (xs[k]?).map fun d => .tup [.int k, d]
    | none => none
  | .zipL i j _ => match h.seq i, h.seq j with
    | some xs, some ys => match xs[k]?, ys[k]? with
      | some x, some y => some (.tup [x, y])
      | _, _ => none
    | _, _ => none
  | .zipT xs ys => match xs[k]?, ys[k]? with
    | some x, some y => some (.tup [x, y])
    | _, _ => none
  | .dks i _ => match MI.keysS h i with
    | some xs => xs[k]?
    | none => none
  | .dvs i _ => match MI.valsS h i with
    | some xs => xs[k]?
    | none => none
  | .dis i _ => match MI.prsS h i with
    | some xs => xs[k]?
    | none => none
  | .rngc lo c _ => some (.int (lo + (k : Nat) * c))
  | .enk s k0 => match s.see h with
    | some xs => (xs[k]?).map fun d => .tup [.int (k0 + (k : Nat)), d]
    | none => none
  | .zp s t => match s.see h, t.see h with
    | some xs, some ys => match xs[k]?, ys[k]? with
      | some x, some y => some (.tup [x, y])
      | _, _ => none
    | _, _ => none
def MI.fin (h : MH) : MI → Bool
  | .lst i n => (MI.seqN h i n).isSome
  | .enm i n => (MI.seqN h i n).isSome
  | .zipL i j n => match h.seq i, h.seq j with
    | some xs, some ys => decide (n = min xs.length ys.length)
    | _, _ => false
  | .dks i n => eqL (MI.keysS h i) n
  | .dvs i n => eqL (MI.valsS h i) n
  | .dis i n => eqL (MI.prsS h i) n
  | .enk s _ => (s.items h).isSome
  | .zp s t => (s.items h).isSome && (t.items h).isSome
  | _ => true
/-- an iterator of the text's and ours -/
def RIt (K : PySem.W.Frag) (G : Nat → Option Addr) (ρ0 : List Addr) (H0 : Hp) (it : MI) (J : It) : Prop :=
  ∀ (k : Nat) (ρ : List Addr) (h : MH) (H : Hp), Fut K ρ0 H0 ρ H → Rel K G ρ h H →
    (∀ d, k < it.n → it.at h k = some d → J.go k H ∧ ∀ x H', J.yld k H x H' → Fut K ρ H ρ H' ∧ Rel K G ρ h H' ∧ RD K G ρ H' d x) ∧ (it.fin h = true → J.stop it.n H)
abbrev Mi := ME → MH → Res MI
def RdI (K : PySem.W.Frag) (G : Nat → Option Addr) (W : WX) (m : Mi) : TI := fun σ H R => ∃ (ρ : List Addr) (h : MH) (env : ME), Rel K G ρ h H ∧ REnv K G ρ H env σ ∧ Wp K G (RIt K G) ρ H (m env h) R (fun c d H' => W c d σ H')
theorem PI.imp {tg iter : Expr} {t t' : TI} (p : PI X tg iter t) (k : ∀ σ H Q, t' σ H Q → t σ H Q) : PI X tg iter t' := ⟨fun pins s σ H Q I q => p.run pins s σ H Q I (k _ _ _ q)⟩
theorem PI.or {tg iter : Expr} {te : TE} {K : PySem.W.Frag} (he : PE X iter te) (p : PI X tg iter (iList X.K te)) (p' : PI X tg iter (iTup X.K te)) : True := trivial
theorem seqN_of {K : PySem.W.Frag} {ρ : List Addr} {h : MH} {H : Hp} {i n : Nat} {xs : List D} (R : Rel K G ρ h H) (e : MI.seqN h i n = some xs) : ∃ a ys, ρ[i]? = some a ∧ SqL K H a ys ∧ RDs K G ρ H xs ys ∧ ys.length = n := by
  unfold MI.seqN at e
  split at e
  · rename_i zs ez
    split at e
    · rename_i hl
      cases e
      obtain ⟨a, ys, h1, h2, h3⟩ := R.seq ez
      exact ⟨a, ys, h1, h2, h3, by rw [← h3.length, hl]⟩
    · cases e
  · cases e
/-- a list, a tuple as it stands -/
def iSeq (m : Mx) : Mi := fun env h => (m env h).bind fun x h1 => match x with
  | .tup xs => .ok (.tup xs) h1
  | .ref i => match h1.seq i with
    | some xs => .ok (.lst i xs.length) h1
    | none => .bad
  | _ => .bad
theorem pi_seq {tg l : Expr} {tl : TE} (hl : PE X l tl) : PI X tg l (fun σ H R => tl σ H fun x H1 => ∃ a, x = .ref a ∧ (((∃ xs, SqL X.K H1 a xs) ∧ R (Itl X.K a) H1) ∨ ((∃ xs, SqT X.K H1 a xs) ∧ R (Itt X.K a) H1))) := by
  refine ⟨fun pins s σ H R I h => ?_⟩
  refine thn (hl.run pins s σ H _ I h) fun v s1 ⟨x, H1, I1, r1, q1⟩ => ?_
  obtain ⟨a, e, q⟩ := q1
  subst e
  cases r1
  rcases q with ⟨⟨xs, hq⟩, q⟩ | ⟨⟨xs, hq⟩, q⟩
  · obtain ⟨its, rv, p, hz⟩ := I1.list hq
    refine wpAny_pyIter_list p.isList ?_
    refine ⟨s1.heap.objs.size, [s1.heap.objs.size], _, _, H1, rfl, I1.kept (t' := s1.toks) fun b o e => Heap.get?_push_of_some _ e, turn_list a _, ⟨_, Heap.get?_push_size _ rfl, rfl, rfl⟩, fun b hb => ?_, q⟩
    have e : b = s1.heap.objs.size := by simpa using hb
    subst e
    exact I1.fpOk (Nat.le_refl _) (I1.hok.fresh (Nat.le_refl _))
  · obtain ⟨its, rv, p, hz⟩ := I1.tuple hq
    refine wpAny_pyIter_tuple (show s1.heap.IsTuple a its.toArray from p) ?_
    refine ⟨s1.heap.objs.size, [s1.heap.objs.size], _, _, H1, rfl, I1.kept (t' := s1.toks) fun b o e => Heap.get?_push_of_some _ e, turn_tuple a _, ⟨_, Heap.get?_push_size _ rfl, rfl, rfl⟩, fun b hb => ?_, q⟩
    have e : b = s1.heap.objs.size := by simpa using hb
    subst e
    exact I1.fpOk (Nat.le_refl _) (I1.hok.fresh (Nat.le_refl _))
theorem rit_lst {K : PySem.W.Frag} {ρ0 : List Addr} {H0 : Hp} {i n : Nat} {a : Addr} (e : ρ0[i]? = some a) : RIt K G ρ0 H0 (.lst i n) (Itl K a) := by
  intro k ρ h H f R
  refine ⟨fun d hk ed => ?_, fun ef => ?_⟩
  · simp only [MI.at] at ed
    split at ed
    · rename_i xs es
      obtain ⟨a', ys, h1, h2, h3⟩ := R.seq es
      rw [f.at e] at h1; cases h1
      obtain ⟨y, g1, g2⟩ := h3.get ed
      refine ⟨⟨ys, y, h2, g1⟩, fun x H' hy => ?_⟩
      obtain ⟨rfl, hy⟩ := hy
      have := hy ys h2
      rw [g1] at this; cases this
      exact ⟨.refl, R, g2⟩
    · cases ed
  · simp only [MI.fin, Option.isSome_iff_exists] at ef
    obtain ⟨xs, es⟩ := ef
    obtain ⟨a', ys, h1, h2, h3, h4⟩ := seqN_of R es
    rw [f.at e] at h1; cases h1
    exact ⟨ys, h2, by rw [h4]; exact Nat.le_refl _⟩
theorem rit_tup {K : PySem.W.Frag} {ρ0 : List Addr} {H0 : Hp} {xs : List D} {ys : List V} {a : Addr} (e : SqT K H0 a ys) (r : RDs K G ρ0 H0 xs ys) : RIt K G ρ0 H0 (.tup xs) (Itt K a) := by
  intro k ρ h H f R
  have e1 := f.tup _ _ e
  have r1 := r.fut f
  refine ⟨fun d hk ed => ?_, fun ef => ?_⟩
  · obtain ⟨y, g1, g2⟩ := r1.get ed
    refine ⟨⟨ys, y, e1, g1⟩, fun x H' hy => ?_⟩
    obtain ⟨rfl, hy⟩ := hy
    have := hy ys e1
    rw [g1] at this; cases this
    exact ⟨.refl, R, g2⟩
  · exact ⟨ys, e1, by rw [← r1.length]; exact Nat.le_refl _⟩
theorem mi_seq {tg : Expr} {m : Mx} (he : PE X e (RdE X.K G W m)) : PI X tg e (RdI X.K G W (iSeq m)) := by
  refine PI.imp (pi_seq he) fun σ H Q q => ?_
  obtain ⟨ρ, h, env, r, re, w⟩ := q
  refine ⟨ρ, h, env, r, re, Wp.bind w fun x h1 ρ1 H1 vx f1 r1 q1 w1 => ?_⟩
  cases q1 with
  | tup sa da => exact ⟨_, rfl, .inr ⟨⟨_, sa⟩, w1.ret r1 (rit_tup sa da)⟩⟩
  | @ref i a ha =>
    cases es : h1.seq i with
    | none => simp only [es] at w1; exact w1.elim
    | some xs =>
      simp only [es] at w1
      obtain ⟨a1, ys, p1, p2, p3⟩ := r1.seq es
      rw [ha] at p1; cases p1
      exact ⟨_, rfl, .inl ⟨⟨_, p2⟩, w1.ret r1 (rit_lst ha)⟩⟩
  | _ => exact w1.elim
def iRng1M (ms : Ma) : Mi := fun env h => (ms env h).bind fun vs h1 => match vs with
  | [.int j] => if -(2 ^ 62) ≤ j ∧ j < 2 ^ 62 then .ok (.rng 0 j.toNat) h1 else .bad
  | _ => .bad
def iRng2M (ms : Ma) : Mi := fun env h => (ms env h).bind fun vs h1 => match vs with
  | [.int i, .int j] => if -(2 ^ 62) ≤ i ∧ i < 2 ^ 62 ∧ -(2 ^ 62) ≤ j ∧ j < 2 ^ 62 then .ok (.rng i (j - i).toNat) h1 else .bad
  | _ => .bad
theorem rit_rng {K : PySem.W.Frag} {ρ0 : List Addr} {H0 : Hp} {lo : Int} {n : Nat} : RIt K G ρ0 H0 (.rng lo n) (Itr lo n) := by
  intro k ρ h H f R
  refine ⟨fun d hk ed => ⟨hk, fun x H' hy => ?_⟩, fun _ => Nat.le_refl _⟩
  obtain ⟨rfl, rfl⟩ := hy
  cases ed
  exact ⟨.refl, R, .int _⟩
theorem mi_rng1 {tg a : Expr} {ms : Ma} {p : Pos} (hg : Gl X "range") (hm : X.mg "range" = none) (ha : PA X [a] (RdA X.K G W ms)) (hs : starEach [a] X.env = [(false, eval a X.env)] := by rfl) : PI X tg (.Call (.Name "range" p) [a] [] pos) (RdI X.K G W (iRng1M ms)) := by
  refine PI.imp (pi_range1 hg hm ha hs) fun σ H Q q => ?_
  obtain ⟨ρ, h, env, r, re, w⟩ := q
  refine ⟨ρ, h, env, r, re, Wp.bind w fun vs h1 ρ1 H1 us f1 r1 q1 w1 => ?_⟩
  cases q1 with
  | nil => exact w1.elim
  | cons a1 b1 =>
    cases b1 with
    | cons a2 b2 => cases a1 <;> exact w1.elim
    | nil =>
      cases a1 with
      | int j =>
        simp only at w1
        split at w1
        · rename_i hc
          exact ⟨j, rfl, hc.1, hc.2, w1.ret r1 rit_rng⟩
        · exact w1.elim
      | _ => exact w1.elim
theorem mi_rng2 {tg a b : Expr} {ms : Ma} {p : Pos} (hg : Gl X "range") (hm : X.mg "range" = none) (ha : PA X [a, b] (RdA X.K G W ms)) (hs : starEach [a, b] X.env = [(false, eval a X.env), (false, eval b X.env)] := by rfl) (hs2 : starEach [b] X.env = [(false, eval b X.env)] := by rfl) :
    PI X tg (.Call (.Name "range" p) [a, b] [] pos) (RdI X.K G W (iRng2M ms)) := by
  refine PI.imp (pi_range2 hg hm ha hs hs2) fun σ H Q q => ?_
  obtain ⟨ρ, h, env, r, re, w⟩ := q
  refine ⟨ρ, h, env, r, re, Wp.bind w fun vs h1 ρ1 H1 us f1 r1 q1 w1 => ?_⟩
  split at w1
  · rename_i i j
    split at w1
    · rename_i hc
      cases q1 with
      | cons a1 b1 =>
        cases b1 with
        | cons a2 b2 =>
          cases b2; cases a1; cases a2
          exact ⟨i, j, rfl, hc, w1.ret r1 rit_rng⟩
    · exact w1.elim
  · exact w1.elim
/-- enumerate(list) -/
def iEnumM (ms : Ma) : Mi := fun env h => (ms env h).bind fun vs h1 => match vs with
  | [.ref i] => match h1.seq i with
    | some xs => .ok (.enm i xs.length) h1
    | none => .bad
  | _ => .bad
theorem rit_enm {K : PySem.W.Frag} {ρ0 : List Addr} {H0 : Hp} {i n : Nat} {a : Addr} (e : ρ0[i]? = some a) : RIt K G ρ0 H0 (.enm i n) (Ite K a) := by
  intro k ρ h H f R
  refine ⟨fun d hk ed => ?_, fun ef => ?_⟩
  · simp only [MI.at] at ed
    split at ed
    · rename_i xs es
      rw [Option.map_eq_some_iff] at ed
      obtain ⟨z, ed, rfl⟩ := ed
      obtain ⟨a', ys, h1, h2, h3⟩ := R.seq es
      rw [f.at e] at h1; cases h1
      obtain ⟨y, g1, g2⟩ := h3.get ed
      refine ⟨⟨ys, y, h2, g1⟩, fun x H' hy => ?_⟩
      obtain ⟨T, x1, rfl, nT, rfl, hx⟩ := hy
      have := hx ys h2
      rw [g1] at this; cases this
      exact new_tup R nT (.cons (.int _) (.cons g2 .nil))
    · cases ed
  · simp only [MI.fin, Option.isSome_iff_exists] at ef
    obtain ⟨xs, es⟩ := ef
    obtain ⟨a', ys, h1, h2, h3, h4⟩ := seqN_of R es
    rw [f.at e] at h1; cases h1
    exact ⟨ys, h2, by rw [h4]; exact Nat.le_refl _⟩
theorem mi_enum {a : Expr} {ms : Ma} {p tpos : Pos} {elts : List Expr} {kk : Nat} (hg : Gl X "enumerate") (hm : X.mg "enumerate" = none) (ha : PA X [a] (RdA X.K G W ms)) (hs : starEach [a] X.env = [(false, eval a X.env)] := by rfl) :
    PI X (.Tuple elts kk tpos) (.Call (.Name "enumerate" p) [a] [] pos) (RdI X.K G W (iEnumM ms)) := by
  refine PI.imp (pi_enum hg hm ha hs) fun σ H Q q => ?_
  obtain ⟨ρ, h, env, r, re, w⟩ := q
  refine ⟨ρ, h, env, r, re, Wp.bind w fun vs h1 ρ1 H1 us f1 r1 q1 w1 => ?_⟩
  split at w1
  · rename_i i
    cases es : h1.seq i with
    | none => simp only [es] at w1; exact w1.elim
    | some xs =>
      simp only [es] at w1
      obtain ⟨a1, ys, p1, p2, p3⟩ := r1.seq es
      cases q1 with
      | cons b1 b2 =>
        cases b2
        cases b1 with
        | ref ha =>
          rw [ha] at p1; cases p1
          exact ⟨_, _, rfl, p2, w1.ret r1 (rit_enm ha)⟩
  · exact w1.elim
/-- zip of two lists, of two tuples -/
def iZipM (ms : Ma) : Mi := fun env h => (ms env h).bind fun vs h1 => match vs with
  | [.ref i, .ref j] => match h1.seq i, h1.seq j with
    | some xs, some ys => .ok (.zipL i j (min xs.length ys.length)) h1
    | _, _ => .bad
  | [.tup xs, .tup ys] => .ok (.zipT xs ys) h1
  | _ => .bad
theorem rit_zipL {K : PySem.W.Frag} {ρ0 : List Addr} {H0 : Hp} {i j n : Nat} {a b : Addr} (e : ρ0[i]? = some a) (e' : ρ0[j]? = some b) : RIt K G ρ0 H0 (.zipL i j n) (Itz K a b) := by
  intro k ρ h H f R
  refine ⟨fun d hk ed => ?_, fun ef => ?_⟩
  · simp only [MI.at] at ed
    split at ed
    · rename_i xs ys es1 es2
      split at ed
      · rename_i x y ex ey
        cases ed
        obtain ⟨a', us, h1, h2, h3⟩ := R.seq es1
        obtain ⟨b', ws, h4, h5, h6⟩ := R.seq es2
        rw [f.at e] at h1; cases h1
        rw [f.at e'] at h4; cases h4
        obtain ⟨u, g1, g2⟩ := h3.get ex
        obtain ⟨v, g3, g4⟩ := h6.get ey
        refine ⟨⟨us, ws, u, v, h2, h5, g1, g3⟩, fun x H' hy => ?_⟩
        obtain ⟨T, x1, x2, rfl, nT, rfl, q1, q2⟩ := hy
        have z1 := q1 us h2
        have z2 := q2 ws h5
        rw [g1] at z1; cases z1
        rw [g3] at z2; cases z2
        exact new_tup R nT (.cons g2 (.cons g4 .nil))
      · cases ed
    · cases ed
  · simp only [MI.fin] at ef
    split at ef
    · rename_i xs ys es1 es2
      have hn : n = min xs.length ys.length := of_decide_eq_true ef
      obtain ⟨a', us, h1, h2, h3⟩ := R.seq es1
      obtain ⟨b', ws, h4, h5, h6⟩ := R.seq es2
      rw [f.at e] at h1; cases h1
      rw [f.at e'] at h4; cases h4
      refine ⟨us, ws, h2, h5, ?_⟩
      rw [← h3.length, ← h6.length]
      show _ ≤ n ∨ _ ≤ n
      omega
    · cases ef
theorem rit_zipT {K : PySem.W.Frag} {ρ0 : List Addr} {H0 : Hp} {xs ys : List D} {us ws : List V} {a b : Addr} (e : SqT K H0 a us) (r : RDs K G ρ0 H0 xs us) (e' : SqT K H0 b ws) (r' : RDs K G ρ0 H0 ys ws) : RIt K G ρ0 H0 (.zipT xs ys) (RZ.ItzT K a b) := by
  intro k ρ h H f R
  have h2 := f.tup _ _ e
  have h3 := r.fut f
  have h5 := f.tup _ _ e'
  have h6 := r'.fut f
  refine ⟨fun d hk ed => ?_, fun ef => ?_⟩
  · simp only [MI.at] at ed
    split at ed
    · rename_i x y ex ey
      cases ed
      obtain ⟨u, g1, g2⟩ := h3.get ex
      obtain ⟨v, g3, g4⟩ := h6.get ey
      refine ⟨⟨us, ws, u, v, h2, h5, g1, g3⟩, fun x H' hy => ?_⟩
      obtain ⟨T, x1, x2, rfl, nT, rfl, q1, q2⟩ := hy
      have z1 := q1 us h2
      have z2 := q2 ws h5
      rw [g1] at z1; cases z1
      rw [g3] at z2; cases z2
      exact new_tup R nT (.cons g2 (.cons g4 .nil))
    · cases ed
  · refine ⟨us, ws, h2, h5, ?_⟩
    rw [← h3.length, ← h6.length]
    show _ ≤ min xs.length ys.length ∨ _ ≤ min xs.length ys.length
    omega
theorem mi_zip {a b : Expr} {ms : Ma} {p tpos : Pos} {elts : List Expr} {kk : Nat} (hg : Gl X "zip") (hm : X.mg "zip" = none) (ha : PA X [a, b] (RdA X.K G W ms)) (hs : starEach [a, b] X.env = (false, eval a X.env) :: starEach [b] X.env := by rfl) (hpl : (backTo pos (starEach [b] X.env)).any (·.1) = false := by rfl) :
    PI X (.Tuple elts kk tpos) (.Call (.Name "zip" p) [a, b] [] pos) (RdI X.K G W (iZipM ms)) := by
  refine PI.imp (RZ.pi_zipA hg hm ha hs hpl) fun σ H Q q => ?_
  obtain ⟨ρ, h, env, r, re, w⟩ := q
  refine ⟨ρ, h, env, r, re, Wp.bind w fun vs h1 ρ1 H1 us f1 r1 q1 w1 => ?_⟩
  split at w1
  · rename_i i j
    split at w1
    · rename_i xs ys es1 es2
      obtain ⟨a1, us, p1, p2, p3⟩ := r1.seq es1
      obtain ⟨a2, ws, p4, p5, p6⟩ := r1.seq es2
      cases q1 with
      | cons b1 b2 =>
        cases b2 with
        | cons b2 b3 =>
          cases b3
          cases b1 with
          | ref ha =>
            cases b2 with
            | ref hb =>
              rw [ha] at p1; cases p1
              rw [hb] at p4; cases p4
              exact ⟨_, _, _, _, rfl, .inl ⟨p2, p5, w1.ret r1 (rit_zipL ha hb)⟩⟩
    · exact w1.elim
  · cases q1 with
    | cons b1 b2 =>
      cases b2 with
      | cons b2 b3 =>
        cases b3
        cases b1 with
        | tup sa da =>
          cases b2 with
          | tup sb db => exact ⟨_, _, _, _, rfl, .inr ⟨sa, sb, w1.ret r1 (rit_zipT sa da sb db)⟩⟩
  · exact w1.elim

/-! ### for -/
def forL (it : MI) (t : Tg) (body : Ms) : Nat → Nat → ME → MH → SR
  | 0, _, env, h => if it.fin h = true then .nx env h else .bad
  | r + 1, k, env, h => match it.at h k with
    | none => .bad
    | some d => match asg h t d env with
      | none => .bad
      | some e1 => match body e1 h with
        | .nx e2 h2 => forL it t body r (k + 1) e2 h2
        | .ct e2 h2 => forL it t body r (k + 1) e2 h2
        | .bk e2 h2 => .nx e2 h2
        | .rt v h2 => .rt v h2
        | .exc C fs e2 h2 => .exc C fs e2 h2
        | .bad => .bad
def sFor (mi : Mi) (t : Tg) (body : Ms) : Ms := fun env h => (mi env h).toS env fun it h1 => forL it t body it.n 0 env h1
theorem ms_for {tg iter : Expr} {body : List Stmt} {mi : Mi} {t : Tg} {mb : Ms} (hp : PassesOwn (model X.prog X.w) X.A X.env X.xe) (hc : X.calm = true) (hi : PI X tg iter (RdI X.K G W mi)) (hg : PG X tg (RdG X.K G t)) (hb : PSs X body (RdS X.K G W mb))
    (hs : ∀ x, foldedSetIterable iter X.env x = pure x := by intro _; rfl) : PS X (.For tg iter body [] pos) (RdS X.K G W (sFor mi t mb)) := by
  refine PS.imp (ps_for hp hc hi hg hb hs) fun D σ H q => ?_
  obtain ⟨ρ, h, env, r, re, w⟩ := q
  refine ⟨ρ, h, env, r, re, WpS.bind w re fun it h1 ρ0 H0 J f0 r0 q0 re0 w0 => ?_⟩
  refine ⟨fun i m σ H => m = it.n - i ∧ i ≤ it.n ∧ ∃ (ρ : List Addr) (h : MH) (env : ME), Fut X.K ρ0 H0 ρ H ∧ Rel X.K G ρ h H ∧ REnv X.K G ρ H env σ ∧ WpS X.K G W ρ H (forL it t mb (it.n - i) i env h) D,
    ⟨it.n, rfl, Nat.zero_le _, ρ0, h1, env, .refl, r0, re0, w0⟩, ?_⟩
  rintro i m σ H ⟨rfl, hi, ρ, h, env, f, r, re, w⟩
  obtain ⟨q1, q2⟩ := q0 i ρ h H f r
  by_cases hlt : i < it.n
  · obtain ⟨rem, er⟩ : ∃ rem, it.n - i = rem + 1 := ⟨it.n - i - 1, by omega⟩
    rw [er, forL] at w
    split at w
    · exact w.elim
    · rename_i d ed
      split at w
      · exact w.elim
      · rename_i e1 ea
        obtain ⟨hgo, hy⟩ := q1 d hlt ed
        refine .inr ⟨hgo, fun σ' H' => ∃ (ρ : List Addr) (h : MH) (env : ME), Fut X.K ρ0 H0 ρ H' ∧ Rel X.K G ρ h H' ∧ REnv X.K G ρ H' env σ' ∧ WpS X.K G W ρ H' (forL it t mb rem (i + 1) env h) D, fun σ' H' p => ?_, fun x H' y => ?_⟩
        · obtain ⟨ρ', h', e', g1, g2, g3, g4⟩ := p
          exact ⟨it.n - (i + 1), by omega, rfl, by omega, ρ', h', e', g1, g2, g3, by rw [show it.n - (i + 1) = rem by omega]; exact g4⟩
        · obtain ⟨f1, r1, rd⟩ := hy x H' y
          refine ⟨ρ, h, env, d, e1, r1, re.fut f1, rd, ea, fun σ2 re2 _ => ⟨ρ, h, e1, r1, re2, ?_⟩⟩
          have w' := WpS.fut f1 w
          cases eb : mb e1 h with
          | nx e2 h2 => rw [eb] at w'; exact fun ρ3 H3 σ3 f3 r3 re3 => ⟨ρ3, h2, e2, (f.trans f1).trans f3, r3, re3, WpS.fut f3 w'⟩
          | ct e2 h2 => rw [eb] at w'; exact fun ρ3 H3 σ3 f3 r3 re3 => ⟨ρ3, h2, e2, (f.trans f1).trans f3, r3, re3, WpS.fut f3 w'⟩
          | bk e2 h2 => rw [eb] at w'; exact w'
          | rt v h2 => rw [eb] at w'; exact w'
          | exc C fs e2 h2 => rw [eb] at w'; exact w'
          | bad => rw [eb] at w'; exact w'.elim
  · have e : i = it.n := by omega
    subst e
    rw [Nat.sub_self, forL] at w
    split at w
    · rename_i ef
      exact .inl ⟨q2 ef, w.go r re⟩
    · exact w.elim

/-! ### while -/
def whL (t : Mt) (body : Ms) : Nat → ME → MH → SR
  | 0, _, _ => .bad
  | f + 1, env, h => (t env h).toS env fun k h1 => match k with
    | false => .nx env h1
    | true => match body env h1 with
      | .nx e2 h2 => whL t body f e2 h2
      | .ct e2 h2 => whL t body f e2 h2
      | .bk e2 h2 => .nx e2 h2
      | .rt v h2 => .rt v h2
      | .exc C fs e2 h2 => .exc C fs e2 h2
      | .bad => .bad
def fuelW : Nat := 1000000
def sWhile (t : Mt) (body : Ms) : Ms := fun env h => whL t body fuelW env h
theorem ms_while {c : Expr} {body : List Stmt} {t : Mt} {mb : Ms} (hp : PassesOwn (model X.prog X.w) X.A X.env X.xe) (hc : PT X c (RdT X.K G W t)) (hb : PSs X body (RdS X.K G W mb)) : PS X (.While c body [] pos) (RdS X.K G W (sWhile t mb)) := by
  refine PS.imp (ps_while hp hc hb) fun D σ H q => ?_
  obtain ⟨ρ, h, env, r, re, w⟩ := q
  refine ⟨fun m σ H => ∃ (ρ : List Addr) (h : MH) (env : ME), Rel X.K G ρ h H ∧ REnv X.K G ρ H env σ ∧ WpS X.K G W ρ H (whL t mb m env h) D, ⟨fuelW, ρ, h, env, r, re, w⟩, ?_⟩
  rintro m σ H ⟨ρ, h, env, r, re, w⟩
  cases m with
  | zero => exact w.elim
  | succ m =>
    refine ⟨ρ, h, env, r, re, WpS.bind w re fun k h1 ρ1 H1 b f1 r1 q1 re1 w1 => ?_⟩
    subst q1
    cases k with
    | false => exact w1.go r1 re1
    | true =>
      refine ⟨fun σ' H' => ∃ (ρ : List Addr) (h : MH) (env : ME), Rel X.K G ρ h H' ∧ REnv X.K G ρ H' env σ' ∧ WpS X.K G W ρ H' (whL t mb m env h) D, fun σ' H' p => ⟨m, Nat.lt_succ_self _, p⟩, ρ1, h1, env, r1, re1, ?_⟩
      cases eb : mb env h1 with
      | nx e2 h2 => rw [eb] at w1; exact fun ρ3 H3 σ3 f3 r3 re3 => ⟨ρ3, h2, e2, r3, re3, WpS.fut f3 w1⟩
      | ct e2 h2 => rw [eb] at w1; exact fun ρ3 H3 σ3 f3 r3 re3 => ⟨ρ3, h2, e2, r3, re3, WpS.fut f3 w1⟩
      | bk e2 h2 => rw [eb] at w1; exact w1
      | rt v h2 => rw [eb] at w1; exact w1
      | exc C fs e2 h2 => rw [eb] at w1; exact w1
      | bad => rw [eb] at w1; exact w1.elim
end
end MM

set_option Elab.async false
set_option linter.all false
set_option maxRecDepth 100000
set_option maxHeartbeats 4000000
set_option autoImplicit false
/-! comprehensions, methods of lists, defs -/
namespace MM
open PySem PySem.Spec PyProof.Rows L2

theorem Rel.lset {K : PySem.W.Frag} {G : Nat → Option Addr} {ρ : List Addr} {H : Hp} {h : MH} {i : Nat} {a : Addr} {ys xs : List V} {ds : List D} {cs : List D} (r : Rel K G ρ h H) (g : h.get i = some (.lst cs)) (e : ρ[i]? = some a) (p : H a = some (.lst ys)) (q : RDs K G ρ H ds xs) :
    Fut K ρ H ρ (upd H a (.lst xs)) ∧ Rel K G ρ (h.set i (.lst ds)) (upd H a (.lst xs)) := by
  have fu : Fut K ρ H ρ (upd H a (.lst xs)) := Fut.updS e (by rw [p]; exact .lst _)
  exact ⟨fu, r.set (o := .lst ds) g rfl rfl e (by rw [p]; exact .lst _) ⟨xs, upd_same, q.fut fu⟩⟩
section
variable {X : Cx} {G : Nat → Option Addr} {W : WX} {e : Expr} {pos : Pos}
/-! ### [elt for t in iter if test] -/
def wipeE (env : ME) : List Nat → ME
  | [] => env
  | v :: vs => (wipeE env vs).set v none
theorem REnv.wipe {K : PySem.W.Frag} {ρ : List Addr} {H : Hp} {env : ME} {σ : L2.St} (r : REnv K G ρ H env σ) : ∀ vs : List Nat, REnv K G ρ H (wipeE env vs) (L2.wipe σ vs)
  | [] => r
  | v :: vs => by
    unfold wipeE L2.wipe
    exact (REnv.wipe r vs).unset2
abbrev W0 : WX := fun _ _ _ _ => False
/-- one item put behind the list at D -/
def pushD (h : MH) (L : Nat) (y : D) : Option MH := match h.get L with
  | some (.lst acc) => if acc.length < sizeLine then some (h.set L (.lst (acc ++ [y]))) else none
  | _ => none
def lcL (it : MI) (t : Tg) (tt : Mt) (te : Mx) (env : ME) (D : Nat) : Nat → Nat → MH → Option MH
  | 0, _, h => if it.fin h = true then some h else none
  | r + 1, k, h => match it.at h k with
    | none => none
    | some d => match asg h t d env with
      | none => none
      | some e1 => match tt e1 h with
        | .ok true h2 => match te e1 h2 with
          | .ok y h3 => match pushD h3 D y with
            | some h4 => lcL it t tt te env D r (k + 1) h4
            | none => none
          | _ => none
        | .ok false h2 => lcL it t tt te env D r (k + 1) h2
        | _ => none
def eLc (mi : Mi) (t : Tg) (tt : Mt) (te : Mx) (own : List Nat) : Mx := fun env h => (mi env h).bind fun it h1 => match lcL it t tt te (wipeE env own) h1.n it.n 0 (h1.add (.lst [])) with
  | some h2 => .ok (.ref h1.n) h2
  | none => .bad
def tYesM : Mt := fun _ h => .ok true h
theorem PTs.imp {ifs : List Expr} {t t' : TT} (p : PTs X ifs t) (k : ∀ σ H Q, t' σ H Q → t σ H Q) : PTs X ifs t' := ⟨fun pins s σ H Q I q => p.run pins s σ H Q I (k _ _ _ q)⟩
theorem mts_nil : PTs X [] (RdT X.K G W tYesM) := PTs.imp pts_nil fun σ H Q ⟨ρ, h, env, r, re, w⟩ => w.ret r rfl
theorem mts_one {c : Expr} {t : Mt} (h : PT X c (RdT X.K G W t)) : PTs X [c] (RdT X.K G W t) := pts_one h
theorem lc_rd {mi : Mi} {t : Tg} {tt : Mt} {te : Mx} {own : List Nat} {σ : L2.St} {H : Hp} {Q : VK} (ho : ∀ i ∈ t.slots, i ∈ own) (q : RdE X.K G W (eLc mi t tt te own) σ H Q) :
    tLc (RdI X.K G W mi) (RdG X.K G t) (RdT X.K G W0 tt) (RdE X.K G W0 te) own σ H Q := by
  obtain ⟨ρ, h, env, r, re, w⟩ := q
  refine ⟨ρ, h, env, r, re, Wp.bind w fun it h1 ρ0 H0 J f0 r0 q0 w0 => ?_⟩
  have re0 := (re.fut f0).wipe own
  intro D nD
  cases el : lcL it t tt te (wipeE env own) h1.n it.n 0 (h1.add (.lst [])) with
  | none => rw [el] at w0; exact w0.elim
  | some hE =>
    rw [el] at w0
    obtain ⟨fN, rN, dN⟩ := new_lst r0 nD RDs.nil
    have atD : ∀ {ρ H}, Fut X.K (ρ0 ++ [D]) (upd H0 D (.lst [])) ρ H → ρ[h1.n]? = some D := fun f => f.at (by rw [← r0.len]; simp)
    refine ⟨fun i m H => m = it.n - i ∧ i ≤ it.n ∧ ∃ (ρ : List Addr) (h : MH), Fut X.K (ρ0 ++ [D]) (upd H0 D (.lst [])) ρ H ∧ Rel X.K G ρ h H ∧ lcL it t tt te (wipeE env own) h1.n (it.n - i) i h = some hE,
      ⟨it.n, rfl, Nat.zero_le _, _, _, .refl, rN, el⟩, ?_⟩
    rintro i m H ⟨rfl, hi, ρ, h, f, r, el⟩
    obtain ⟨q1, q2⟩ := q0 i ρ h H (fN.trans f) r
    by_cases hlt : i < it.n
    · obtain ⟨rem, er⟩ : ∃ rem, it.n - i = rem + 1 := ⟨it.n - i - 1, by omega⟩
      rw [er, lcL] at el
      split at el
      · cases el
      · rename_i d ed
        split at el
        · cases el
        · rename_i e1 ea
          obtain ⟨hgo, hy⟩ := q1 d hlt ed
          refine .inr ⟨hgo, fun H' => ∃ (ρ : List Addr) (h : MH), Fut X.K (ρ0 ++ [D]) (upd H0 D (.lst [])) ρ H' ∧ Rel X.K G ρ h H' ∧ lcL it t tt te (wipeE env own) h1.n rem (i + 1) h = some hE, fun H' p => ?_, fun x H' y => ?_⟩
          · obtain ⟨ρ', h', g1, g2, g3⟩ := p
            exact ⟨it.n - (i + 1), by omega, rfl, by omega, ρ', h', g1, g2, by rw [show it.n - (i + 1) = rem by omega]; exact g3⟩
          · obtain ⟨f1, r1, rd⟩ := hy x H' y
            refine ⟨ρ, h, wipeE env own, d, e1, r1, re0.fut ((fN.trans f).trans f1), rd, ea, fun σ2 re2 wp => ⟨?_, ρ, h, e1, r1, re2, ?_⟩⟩
            · have ww : ∀ vs : List Nat, L2.wipe (L2.wipe σ vs) vs = L2.wipe σ vs := by
                intro vs
                have key : ∀ (ws vs : List Nat) (τ : L2.St), (∀ i ∈ ws, i ∈ vs) → L2.wipe (L2.wipe τ ws) vs = L2.wipe τ vs := by
                  intro ws
                  induction ws with
                  | nil => intro vs τ _; rfl
                  | cons w ws ih =>
                    intro vs τ hm
                    show L2.wipe ((L2.wipe τ ws).set w none) vs = _
                    rw [wipe_set (hm w List.mem_cons_self)]
                    exact ih vs τ fun i hi => hm i (List.mem_cons_of_mem _ hi)
                exact key vs vs σ fun i hi => hi
              rw [wp own ho]
              exact ww own
            · cases eb : tt e1 h with
              | exc C fs h2 => rw [eb] at el; cases el
              | bad => rw [eb] at el; cases el
              | ok k h2 =>
                intro ρ3 H3 b f3 r3 q3
                subst q3
                cases k with
                | false =>
                  rw [eb] at el
                  exact ⟨ρ3, h2, (f.trans f1).trans f3, r3, el⟩
                | true =>
                  rw [eb] at el
                  refine ⟨ρ3, h2, e1, r3, re2.fut f3, ?_⟩
                  cases ex : te e1 h2 with
                  | exc C fs h2 => simp only [ex] at el; cases el
                  | bad => simp only [ex] at el; cases el
                  | ok yv h3 =>
                    simp only [ex] at el
                    intro ρ4 H4 vy f4 r4 q4
                    have fA := ((f.trans f1).trans f3).trans f4
                    unfold pushD at el
                    cases eg : h3.get h1.n with
                    | none => simp only [eg] at el; cases el
                    | some ob =>
                      cases ob with
                      | lst acc =>
                        simp only [eg] at el
                        by_cases hz : acc.length < sizeLine
                        · rw [if_pos hz] at el
                          obtain ⟨a1, ys, p1, p2, p3⟩ := r4.lst eg
                          rw [atD fA] at p1; cases p1
                          obtain ⟨fu, ru⟩ := r4.lset eg (atD fA) p2 (p3.append (.cons q4 .nil))
                          exact ⟨ys, p2, by rw [← p3.length]; exact hz, ρ4, _, fA.trans fu, ru, el⟩
                        · rw [if_neg hz] at el; cases el
                      | ro xs => simp only [eg] at el; cases el
                      | kl xs => simp only [eg] at el; cases el
                      | ins C fs => simp only [eg] at el; cases el
                      | dct ks => simp only [eg] at el; cases el
                      | dt ks => simp only [eg] at el; cases el
                      | rct ks => simp only [eg] at el; cases el
                      | rdt ks => simp only [eg] at el; cases el
    · have e : i = it.n := by omega
      subst e
      rw [Nat.sub_self, lcL] at el
      split at el
      · rename_i ef
        cases el
        exact .inl ⟨q2 ef, w0 _ _ _ (fN.trans f) r (.ref (atD f))⟩
      · cases el
theorem me_lc {elt tg iter : Expr} {ifs : List Expr} {scope : Scope} {own : List (Str × Nat)} {mi : Mi} {t : Tg} {tt : Mt} {te : Mx} (hc : X.calm = true) (hN : X.N.Nodup) (hi : PI X tg iter (RdI X.K G W mi)) (ok : BlkOk X.N X.env.scope scope own) (ho : ∀ i ∈ t.slots, i ∈ own.map (·.2))
    (hg : ∀ (s : Shared) (H : Hp) (C : Addr) (cl : List (Str × Addr)) (fp : List Addr), PG (X.blk s H scope (compEnvC scope cl C X.env) fp) tg (RdG X.K G t)) (ht : ∀ (s : Shared) (H : Hp) (C : Addr) (cl : List (Str × Addr)) (fp : List Addr), PTs (X.blk s H scope (compEnvC scope cl C X.env) fp) ifs (RdT X.K G W0 tt))
    (he : ∀ (s : Shared) (H : Hp) (C : Addr) (cl : List (Str × Addr)) (fp : List Addr), PE (X.blk s H scope (compEnvC scope cl C X.env) fp) elt (RdE X.K G W0 te)) (hs : ∀ x, foldedSetIterable iter X.env x = pure x := by intro _; rfl) :
    PE X (.ListComp elt [⟨tg, iter, ifs, 0⟩] scope pos) (RdE X.K G W (eLc mi t tt te (own.map (·.2)))) := PE.imp (pe_lc hc hN hi ok hg ht he hs) fun σ H Q q => lc_rd ho q
theorem ms_setLc {i : Nat} {y : Str} {py : Pos} {elt tg iter : Expr} {ifs : List Expr} {scope : Scope} {own : List (Str × Nat)} {spos : Pos} {mi : Mi} {t : Tg} {tt : Mt} {te : Mx} (hc : X.calm = true) (hN : X.N.Nodup) (hy : X.N[i]? = some y) (hyl : X.env.scope.names.lookup y = some .local)
    (hsw : swapsWith (.ListComp elt [⟨tg, iter, ifs, 0⟩] scope pos) (some (.Name y py)) spos.line X.env = pure true) (hi : PI X tg iter (RdI X.K G W mi)) (ok : BlkOk X.N X.env.scope scope own) (ho : ∀ i ∈ t.slots, i ∈ own.map (·.2))
    (hg : ∀ (s : Shared) (H : Hp) (C : Addr) (cl : List (Str × Addr)) (fp : List Addr), PG (X.blk s H scope (compEnvC scope cl C X.env) fp) tg (RdG X.K G t)) (ht : ∀ (s : Shared) (H : Hp) (C : Addr) (cl : List (Str × Addr)) (fp : List Addr), PTs (X.blk s H scope (compEnvC scope cl C X.env) fp) ifs (RdT X.K G W0 tt))
    (he : ∀ (s : Shared) (H : Hp) (C : Addr) (cl : List (Str × Addr)) (fp : List Addr), PE (X.blk s H scope (compEnvC scope cl C X.env) fp) elt (RdE X.K G W0 te)) (hs : ∀ x, foldedSetIterable iter X.env x = pure x := by intro _; rfl) :
    PS X (.Assign [.Name y py] (.ListComp elt [⟨tg, iter, ifs, 0⟩] scope pos) spos) (RdS X.K G W (sSet i (eLc mi t tt te (own.map (·.2))))) := by
  refine PS.imp (ps_setLc hc hN hy hyl hsw hi ok hg ht he hs) fun D σ H q => ?_
  obtain ⟨ρ, h, env, r, re, w⟩ := q
  refine lc_rd (G := G) (W := W) ho ⟨ρ, h, env, r, re, WpS.bind w re fun x h1 ρ1 H1 vx f1 r1 q1 re1 w1 => w1.go r1 (re1.set q1)⟩

/-! ### methods of lists -/
def eMt (f : D → List D → MH → Option (D × MH)) (m : Mx) (ms : Ma) : Mx := fun env h => (m env h).bind fun x h1 => (ms env h1).bind fun ds h2 => ofOpt (f x ds h2)
def appendD (x : D) (ds : List D) (h : MH) : Option (D × MH) := match x, ds with
  | .ref i, [y] => (pushD h i y).map fun h' => (.non, h')
  | _, _ => none
def isLst (h : MH) (x : D) : Bool := match x with
  | .ref i => match h.get i with
    | some (.lst _) => true
    | _ => false
  | _ => false
def eApp (m : Mx) (ms : Ma) : Mx := fun env h => (m env h).bind fun x h1 => bif isLst h1 x then (ms env h1).bind fun ds h2 => ofOpt (appendD x ds h2) else .bad
section
variable {o : Expr} {es : List Expr} {apos : Pos}
theorem me_append {m : Mx} {ms : Ma} {T : TE} (hT : ∀ σ H Q, RdE X.K G W (eApp m ms) σ H Q → T σ H Q) (p : PE X (.Call (.Attribute o "append" apos) (e :: es) [] pos) T) : PE X (.Call (.Attribute o "append" apos) (e :: es) [] pos) (RdE X.K G W (eApp m ms)) := PE.imp p hT
theorem app_rd {m : Mx} {ms : Ma} {σ : L2.St} {H : Hp} {Q : VK} (q : RdE X.K G W (eApp m ms) σ H Q) : tBM X.K "list" rAppend (RdE X.K G W m) (RdA X.K G W ms) σ H Q := by
  obtain ⟨ρ, h, env, r, re, w⟩ := q
  refine ⟨ρ, h, env, r, re, Wp.bind w fun x h1 ρ1 H1 vx f1 r1 q1 w1 => ?_⟩
  cases el : isLst h1 x with
  | false => rw [el] at w1; exact w1.elim
  | true =>
    rw [el] at w1
    refine ⟨?_, ρ1, h1, env, r1, re.fut f1, Wp.bind w1 fun ds h2 ρ2 H2 vs f2 r2 q2 w2 => ?_⟩
    · unfold isLst at el
      split at el
      · rename_i i
        split at el
        · rename_i xs g1
          obtain ⟨a1, ys, p1, p2, p3⟩ := r1.lst g1
          cases q1 with
          | ref ha => rw [ha] at p1; cases p1; exact .inl ⟨rfl, _, .of p2⟩
        · cases el
      · cases el
    · obtain ⟨v, h', ea, k⟩ := w2.opt
      unfold appendD at ea
      split at ea
      · rename_i i y
        rw [Option.map_eq_some_iff] at ea
        obtain ⟨h3, ep, ee⟩ := ea
        cases ee
        unfold pushD at ep
        split at ep
        · rename_i acc g1
          split at ep
          · rename_i hz
            cases ep
            obtain ⟨a1, ys, p1, p2, p3⟩ := r2.lst g1
            have q1' := q1.fut f2
            cases q2 with
            | cons b1 b2 =>
              cases b2
              cases q1' with
              | ref ha =>
                rw [ha] at p1; cases p1
                obtain ⟨fu, ru⟩ := r2.lset g1 ha p2 (p3.append (.cons b1 .nil))
                exact ⟨_, ys, _, rfl, rfl, p2, by rw [← p3.length]; exact hz, k _ _ _ fu ru .non⟩
          · cases ep
        · cases ep
      · cases ea
end
end

/-! ### defs -/
def runD (n : Nat) (body : Ms) : Fn := fun ds h => match body (ds.map some ++ List.replicate (n - ds.length) none) h with
  | .nx _ h' => .ok .non h'
  | .rt v h' => .ok v h'
  | .exc C fs _ h' => .exc C fs h'
  | _ => .bad
theorem start_env {K : PySem.W.Frag} {G : Nat → Option Addr} {ρ : List Addr} {H : Hp} {ds : List D} {vs : List V} (N : List Str) (r : RDs K G ρ H ds vs) :
    REnv K G ρ H (ds.map some ++ List.replicate (N.length - ds.length) none) (L2.start N vs) := by
  refine ⟨by simp [L2.start, r.length], fun i d e => ?_⟩
  by_cases hi : i < ds.length
  · rw [List.getElem?_append_left (by simpa using hi), List.getElem?_map] at e
    cases ed : ds[i]? with
    | none => rw [ed] at e; cases e
    | some x =>
      rw [ed] at e
      cases e
      obtain ⟨v, h1, h2⟩ := r.get ed
      refine ⟨v, ?_, h2⟩
      unfold L2.start
      rw [List.getElem?_append_left (by rw [List.length_map, ← r.length]; exact hi), List.getElem?_map, h1]
      rfl
  · rw [List.getElem?_append_right (by simpa using hi)] at e
    have := List.mem_of_getElem? e
    rw [List.mem_replicate] at this
    cases this.2
end MM

set_option Elab.async false
set_option linter.all false
set_option maxRecDepth 100000
set_option maxHeartbeats 4000000
set_option autoImplicit false
/-! defs where it is known what is being shown (nothing); repr; the end of a law -/
namespace MM
open PySem PySem.Spec PyProof.Rows L2

/-- a def's promise, for callers around which nothing is being shown -/
structure FnG (P : Program) (w : World) (K : PySem.W.Frag) (mg : Str → Option Value) (base : Heap) (k : Nat) (f : Addr) (fd : FuncData) (ps : List Str) (sp : Sp) : Prop where
  len : ∀ vs H Q E, sp vs H Q E → vs.length = ps.length
  run : ∀ (A : Around) (outer : List Env) (s : Shared) (H : Hp) (args : Args) (us : List Value) (vs : List V) (Q : VK) (E : XK), Room k A → A.guards = some [] → Env0 P w K mg base A outer s H →
    BindsTo s fd args (ps.zip us) → Vals vs us → sp vs H Q E → codeAny (model P w) A (.call (.ref f) args) (CR (L2.CX P w) outer P w H s Q E) s
section
variable {P : Program} {w : World} {K : PySem.W.Frag} {mg : Str → Option Value} {base : Heap} {G : Nat → Option Addr}
theorem FnG.mono {j k : Nat} {f : Addr} {fd : FuncData} {ps : List Str} {sp : Sp} (F : FnG P w K mg base j f fd ps sp) (h : j ≤ k) : FnG P w K mg base k f fd ps sp :=
  ⟨F.len, fun A outer s H args us vs Q E hr => F.run A outer s H args us vs Q E (hr.mono h)⟩
theorem defG {x qual : Str} {st : Stmt} {f : Addr} {fd : FuncData} {N ps : List Str} {k : Nat} {sp : Sp} (F : Fun K x qual st f fd) (S : FnScope N ps (defScope st)) (len : ∀ vs H Q E, sp vs H Q E → vs.length = ps.length)
    (hbody : ∀ (cdv : Value) (A : Around) (outer : List Env) (s : Shared) (H : Hp) (vs : List V) (Q : VK) (E : XK), Room k (A.deeper (envOfC qual (defScope st) s.heap.objs.size f cdv)) → A.guards = some [] → sp vs H Q E →
      ∃ t, PSs (cxOf (L2.CX P w) P w K mg base N qual (defScope st) f cdv A outer s H E) (defBody st) t ∧ t { nx := fun _ H' => Q .non H', rt := Q } (start N vs) H) : FnG P w K mg base (k + 1) f fd ps sp := by
  obtain ⟨oc, od, kV, doc, pm, an, cdv, ct, osl, rfl, lk, hcd⟩ := F.ex
  refine ⟨len, fun A outer s H args us vs Q E hr hgd e0 hb r hsp => ?_⟩
  have hl := len _ _ _ _ hsp
  have old : ∀ b o, base.get? b = some o → s.heap.get? b = some o := fun b o e => (e0.bs b o e).1
  have KX : K.In s.heap := e0.mod.kin.keeps old
  have names : ∀ y ∈ ps.zip us, (defScope st).names.lookup y.1 = some .local ∨ ((defScope st).names.lookup y.1 = some .cell ∧ ((cellsFrom (s.heap.objs.size + 1) (defScope st).names []).lookup y.1).isSome = true) := by
    rintro ⟨n, v⟩ hy
    exact (S.par n (List.of_mem_zip hy).1).imp id fun q => ⟨q, PySem.W.cellsFrom_some _ _ _ (.inl q)⟩
  refine codeAny_call_function hr.depth (KX _ _ lk) rfl S.co S.gen rfl (PySem.W.codeRec_of KX hcd) (hb _ _ _ _ ?_)
  refine wpAny_newFunctionEnv_cells S.kind names fun env he s1 x => ?_
  subst he
  refine ⟨(e0.mod.nolimit.keeps old).keeps x.toInCall.keep, codeAny_func ?_⟩
  obtain ⟨t, ht, hq⟩ := hbody cdv A outer s H vs Q E (hr.deeper _) hgd hsp
  have I := inv_start (CX := L2.CX P w) (w := w) (E := E) (f := f) (cd := cdv) S hr.hd e0 hl r x
  refine wpAny_mono (ht.run [] s1 (start N vs) H _ I hq) (fun fl s' hs => ?_) fun e s' hs => hs
  cases fl with
  | ret u => obtain ⟨v, σ', H', J, rv, q⟩ := hs; exact ⟨v, H', J.os, J.bare, J.base, J.hok, rv, q⟩
  | next => obtain ⟨σ', H', J, q⟩ := hs; exact ⟨.non, H', J.os, J.bare, J.base, J.hok, rfl, q⟩
  | brk => obtain ⟨_, _, _, q⟩ := hs; exact q.elim
  | cont => obtain ⟨_, _, _, q⟩ := hs; exact q.elim
theorem defM {x qual : Str} {st : Stmt} {f : Addr} {fd : FuncData} {N ps : List Str} {k : Nat} {body : Ms} (F : Fun K x qual st f fd) (S : FnScope N ps (defScope st)) (n m : Nat) (hn : N.length = n) (hm : ps.length = m)
    (hb : ∀ (cdv : Value) (A : Around) (outer : List Env) (s : Shared) (H : Hp) (E : XK), Room k (A.deeper (envOfC qual (defScope st) s.heap.objs.size f cdv)) → A.guards = some [] →
      PSs (cxOf (L2.CX P w) P w K mg base N qual (defScope st) f cdv A outer s H E) (defBody st) (RdS K G (fun c d _ H => E c d H) body)) : FnG P w K mg base (k + 1) f fd ps (spM K G m (runD n body)) := by
  refine defG F S (fun vs H Q E q => ?_) fun cdv A outer s H vs Q E hr hgd q => ⟨_, hb cdv A outer s H E hr hgd, ?_⟩
  · obtain ⟨ρ, h, ds, r, rd, hl, _⟩ := q
    rw [← rd.length, hl, hm]
  · obtain ⟨ρ, h, ds, r, rd, hl, w⟩ := q
    refine ⟨ρ, h, ds.map some ++ List.replicate (N.length - ds.length) none, r, start_env N rd, ?_⟩
    rw [hn]
    unfold runD at w
    cases eb : body (ds.map some ++ List.replicate (n - ds.length) none) h with
    | nx e h' => rw [eb] at w; exact fun ρ1 H1 σ1 f1 r1 re1 => w ρ1 H1 .non f1 r1 .non
    | rt v h' => rw [eb] at w; exact fun ρ1 H1 v1 f1 r1 re1 => w ρ1 H1 v1 f1 r1 re1
    | exc C fs e h' => rw [eb] at w; exact fun ρ1 H1 σ1 c d eg f1 r1 re1 hx => w ρ1 H1 c d eg f1 r1 hx
    | bk e h' => rw [eb] at w; exact w.elim
    | ct e h' => rw [eb] at w; exact w.elim
    | bad => rw [eb] at w; exact w.elim
/-- the promise of the same text with another name for what it yields -/
theorem FnG.to {k n : Nat} {f : Addr} {fd : FuncData} {ps : List Str} {fm fm' : Fn} (F : FnG P w K mg base k f fd ps (spM K G n fm)) (e : fm' = fm) : FnG P w K mg base k f fd ps (spM K G n fm') := by rw [e]; exact F
end

section
variable {X : Cx} {G : Nat → Option Addr} {W : WX} {k : Nat} {f : Addr} {fd : FuncData} {ps : List Str} {x : Str} {p pos : Pos} {fm : Fn} {dvs : List V} {dds : List D} {ds : List Value} {n : Nat} {e : Expr} {es : List Expr}
theorem run_G {sp : Sp} {E : XK} {pins : List (Addr × Obj)} {σ : L2.St} {H : Hp} {s : Shared} {Q : VK} {us : List Value} {vs : List V} (F : FnG X.prog X.w X.K X.mg X.base k f fd ps sp) (hgd : X.A.guards = some []) (hr : Room k X.A) (hb : Binds X.K fd ps ds) (hd : Vals dvs ds)
    (hx : PassesAt (L2.CX X.prog X.w) X σ E) (I : Inv X pins σ H s) (r : Vals vs us) (h : sp (vs ++ dvs) H Q E) : wpAny (model X.prog X.w) X.A (call (.ref f) us) (EP X pins σ Q) X.xe s := by
  have all : Vals (vs ++ dvs) (us ++ ds) := r.append hd
  have hl : (us ++ ds).length = ps.length := all.length.symm.trans (F.len _ _ _ _ h)
  refine wpAny_call (codeAny_mono (F.run X.A X.stack s H ⟨us, []⟩ _ _ Q E hr hgd I.env0 (hb s us I.kIn hl) all h) fun z s' hq => ?_)
  rcases z with e | fl
  · exact hx pins H s e s' I hq
  · cases fl with
    | ret u => exact I.after hq
    | _ => exact hq.elim
theorem pe_G {sp : Sp} {E : L2.St → XK} {t : TA} (F : FnG X.prog X.w X.K X.mg X.base k f fd ps sp) (hgd : X.A.guards = some []) (hr : Room k X.A) (hg : Gl X x) (hm : X.mg x = some (.ref f)) (hk : PySem.W.keepIn X.K (.ref f) = true) (hb : Binds X.K fd ps ds) (hd : Vals dvs ds)
    (hx : ∀ σ, PassesAt (L2.CX X.prog X.w) X σ (E σ)) (ha : PA X (e :: es) t) (hdb : (x == ("__debug__" : Str)) = false) (he : starEach (e :: es) X.env = (false, eval e X.env) :: starEach es X.env) (hpl : (backTo pos (starEach es X.env)).any (·.1) = false) :
    PE X (.Call (.Name x p) (e :: es) [] pos) (tCallSD sp dvs E t) := by
  refine ⟨fun pins s σ H Q I h => wpAny_Call_Name_kw (ld_glob I hg hm ?_ hdb)⟩
  exact PySem.W.callWith_K (h₀ := X.base) I.ok.mod.kin hk (thn (ha.run pos pins s σ H _ I h) fun us s1 ⟨vs, H1, I1, r, q⟩ => ⟨I1.kIn, run_G F hgd hr hb hd (hx σ) I1 r q⟩) he hpl
theorem pe_G0 {sp : Sp} {E : L2.St → XK} (F : FnG X.prog X.w X.K X.mg X.base k f fd ps sp) (hgd : X.A.guards = some []) (hr : Room k X.A) (hg : Gl X x) (hm : X.mg x = some (.ref f)) (hk : PySem.W.keepIn X.K (.ref f) = true) (hb : Binds X.K fd ps ds) (hd : Vals dvs ds)
    (hx : ∀ σ, PassesAt (L2.CX X.prog X.w) X σ (E σ)) (hdb : (x == ("__debug__" : Str)) = false) : PE X (.Call (.Name x p) [] [] pos) (tCallSD sp dvs E tNil) := by
  refine ⟨fun pins s σ H Q I h => wpAny_Call_Name_kw (ld_glob I hg hm ?_ hdb)⟩
  exact PySem.W.callWith_K0 I.kIn hk (run_G (us := []) F hgd hr hb hd (hx σ) I .nil h)
theorem call_rd {ms : Ma} {l : Nat} (hD : ∀ ρ H, RDs X.K G ρ H dds dvs) (hn : l + dds.length = n) (hl : ∀ env h xs h1, ms env h = .ok xs h1 → xs.length = l) {σ : L2.St} {H : Hp} {Q : VK} (q : RdE X.K G W (eCall (dflt fm dds) ms) σ H Q) :
    tCallSD (spM X.K G n fm) dvs (WE W) (RdA X.K G W ms) σ H Q := by
  obtain ⟨ρ, h, env, r, re, w⟩ := q
  refine ⟨ρ, h, env, r, re, ?_⟩
  unfold eCall at w
  cases em : ms env h with
  | bad => rw [em] at w; exact w
  | exc C fs h1 => rw [em] at w; exact w
  | ok xs h1 =>
    rw [em] at w
    intro ρ1 H1 vs f1 r1 q1
    exact ⟨ρ1, h1, xs ++ dds, r1, q1.append (hD _ _), by rw [List.length_append, hl _ _ _ _ em]; exact hn, Wp.fut f1 w⟩
/-- f(a, ..), the defaults dds behind -/
theorem me_callD {ms : Ma} (F : FnG X.prog X.w X.K X.mg X.base k f fd ps (spM X.K G n fm)) (hgd : X.A.guards = some []) (tk : Takes X W) (hr : Room k X.A) (hg : Gl X x) (hm : X.mg x = some (.ref f)) (hk : PySem.W.keepIn X.K (.ref f) = true) (hb : Binds X.K fd ps ds) (hd : Vals dvs ds)
    (hD : ∀ ρ H, RDs X.K G ρ H dds dvs) (hn : (e :: es).length + dds.length = n) (hl : ∀ env h xs h1, ms env h = .ok xs h1 → xs.length = (e :: es).length)
    (ha : PA X (e :: es) (RdA X.K G W ms)) (hdb : (x == ("__debug__" : Str)) = false := by decide) (he : starEach (e :: es) X.env = (false, eval e X.env) :: starEach es X.env := by rfl) (hpl : (backTo pos (starEach es X.env)).any (·.1) = false := by rfl) :
    PE X (.Call (.Name x p) (e :: es) [] pos) (RdE X.K G W (eCall (dflt fm dds) ms)) :=
  PE.imp (pe_G (E := WE W) F hgd hr hg hm hk hb hd (fun σ => passAt tk σ) ha hdb he hpl) fun σ H Q q => call_rd hD hn hl q
/-- without defaults -/
def eF (f : Fn) (ms : Ma) : Mx := fun env h => (ms env h).bind fun ds h1 => f ds h1
theorem eF_eq (f : Fn) (ms : Ma) : eF f ms = eCall (dflt f []) ms := by
  funext env h
  unfold eF eCall dflt
  cases ms env h with
  | ok a h1 => simp
  | exc C fs h1 => rfl
  | bad => rfl
theorem me_call {ms : Ma} (F : FnG X.prog X.w X.K X.mg X.base k f fd ps (spM X.K G n fm)) (hgd : X.A.guards = some []) (tk : Takes X W) (hr : Room k X.A) (hg : Gl X x) (hm : X.mg x = some (.ref f)) (hk : PySem.W.keepIn X.K (.ref f) = true) (hb : Binds X.K fd ps [])
    (hn : (e :: es).length = n) (hl : ∀ env h xs h1, ms env h = .ok xs h1 → xs.length = (e :: es).length)
    (ha : PA X (e :: es) (RdA X.K G W ms)) (hdb : (x == ("__debug__" : Str)) = false := by decide) (he : starEach (e :: es) X.env = (false, eval e X.env) :: starEach es X.env := by rfl) (hpl : (backTo pos (starEach es X.env)).any (·.1) = false := by rfl) :
    PE X (.Call (.Name x p) (e :: es) [] pos) (RdE X.K G W (eF fm ms)) := by
  rw [eF_eq]
  exact me_callD F hgd tk hr hg hm hk hb .nil (fun _ _ => .nil) hn hl ha hdb he hpl
theorem me_call0 (F : FnG X.prog X.w X.K X.mg X.base k f fd ps (spM X.K G 0 fm)) (hgd : X.A.guards = some []) (tk : Takes X W) (hr : Room k X.A) (hg : Gl X x) (hm : X.mg x = some (.ref f)) (hk : PySem.W.keepIn X.K (.ref f) = true) (hb : Binds X.K fd ps [])
    (hdb : (x == ("__debug__" : Str)) = false := by decide) : PE X (.Call (.Name x p) [] [] pos) (RdE X.K G W (eF fm aNil)) := by
  rw [eF_eq]
  refine PE.imp (pe_G0 (E := WE W) F hgd hr hg hm hk hb .nil (fun σ => passAt tk σ) hdb) fun σ H Q q => ?_
  obtain ⟨ρ, h, env, r, re, w⟩ := q
  exact ⟨ρ, h, [], r, .nil, rfl, w⟩

/-! ### repr -/

mutual
def repW : PyData → Nat
  | .none => 4
  | .bool _ => 5
  | .int i => i.natAbs.log2 + 3
  | .str x => (reprText x).length
  | .list xs => repWs xs + 2
  | .tuple xs => repWs xs + 3
  | .dict _ => 16777217
def repWs : List PyData → Nat
  | [] => 0
  | x :: xs => repW x + 2 + repWs xs
end
theorem textFrom_le : ∀ (ts : List Str) (k : Nat) (acc : Str), (textFrom k acc ts).length ≤ acc.length + piled ts
  | [], _, acc => Nat.le_add_right _ _
  | t :: ts, k, acc => by
    have ih := textFrom_le ts (k + 1) (acc ++ (if k > 0 then ", " else "" : String) ++ t)
    have e : (acc ++ (if k > 0 then ", " else "" : String) ++ t).length ≤ acc.length + 2 + t.length := by
      rw [strLen_append, strLen_append]
      have : (Str.ofString (if k > 0 then ", " else "" : String)).length ≤ 2 := by split <;> decide
      omega
    show (textFrom (k + 1) (acc ++ (if k > 0 then ", " else "" : String) ++ t) ts).length ≤ _
    have p : piled (t :: ts) = t.length + 2 + piled ts := by simp [piled]
    omega
mutual
theorem shown_le : ∀ d : PyData, d.canLay0 = true → d.shown.length ≤ repW d
  | .none, _ => by simp only [PyData.shown, repW]; decide
  | .bool b, _ => by simp only [PyData.shown, repW]; cases b <;> decide
  | .int i, _ => by
    simp only [PyData.shown, repW]
    have := int_text_length_le (a := i) (k := i.natAbs.log2 + 1) (by omega) (by omega)
    rw [PySem.ofString_length]
    omega
  | .str x, _ => by simp only [PyData.shown, repW]; exact Nat.le_refl _
  | .list xs, h => by
    simp only [PyData.shown, repW, listText]
    rw [strLen_append]
    have h1 := textFrom_le (PyData.shownAll xs) 0 "["
    have h2 := shown_les xs (by simpa [PyData.canLay0] using h)
    have h3 : (Str.ofString "[").length = 1 := by decide
    have h4 : (Str.ofString "]").length = 1 := by decide
    omega
  | .tuple xs, h => by
    simp only [PyData.shown, repW, tupleText]
    rw [strLen_append, strLen_append]
    have h2 := shown_les xs (by simpa [PyData.canLay0] using h)
    have h3 : (Str.ofString "(").length = 1 := by decide
    have h4 : (Str.ofString (if (PyData.shownAll xs).length == 1 then ",)" else ")")).length ≤ 2 := by split <;> decide
    have h5 : (Str.join ", " (PyData.shownAll xs)).length ≤ piled (PyData.shownAll xs) := by
      by_cases e : PyData.shownAll xs = []
      · rw [e]; decide
      · have := join_length_add _ e
        omega
    omega
  | .dict _, h => by simp [PyData.canLay0] at h
theorem shown_les : ∀ xs : List PyData, PyData.canLayAll0 xs = true → piled (PyData.shownAll xs) ≤ repWs xs
  | [], _ => by simp [PyData.shownAll, piled, repWs]
  | x :: xs, h => by
    have h' : x.canLay0 = true ∧ PyData.canLayAll0 xs = true := by simpa [PyData.canLayAll0] using h
    have h1 := shown_le x h'.1
    have h2 := shown_les xs h'.2
    simp only [PyData.shownAll, repWs]
    have p : piled (x.shown :: PyData.shownAll xs) = x.shown.length + 2 + piled (PyData.shownAll xs) := by simp [piled]
    omega
end
def repOk (d : PyData) : Bool := SeqAt.shaped d && d.showable && decide (repW d ≤ sizeLine)
def reprF (ds : List D) (h : MH) : Option (D × MH) := match ds with
  | [x] => match snap h deep x with
    | some p => if repOk p then some (.rep p, h) else none
    | none => none
  | _ => none
theorem ok_repr (hgd : X.A.guards = some []) (hu : X.A.units + 66 < cLine) : CallOK X G (.builtin "repr") reprF := by
  intro pins s σ H vs us Q I r q
  obtain ⟨ρ, h, ds, w, h', R, rs, e, k⟩ := q
  unfold reprF at e
  split at e
  · split at e
    · rename_i x p ep
      split at e
      · rename_i hc
        cases e
        unfold repOk at hc
        rw [Bool.and_eq_true, Bool.and_eq_true] at hc
        obtain ⟨⟨c1, c2⟩, c3⟩ := hc
        have c3' := of_decide_eq_true c3
        unfold SeqAt.shaped at c1
        rw [Bool.and_eq_true] at c1
        have c4 := of_decide_eq_true c1.2
        have c3 : p.shown.length ≤ sizeLine := Nat.le_trans (shown_le p c1.1) c3'
        cases rs with
        | cons r1 r2 =>
          cases r2
          obtain ⟨u, rfl, ru⟩ := vals1 r
          have dp := r1.dp R ep
          have fin := k ρ H _ .refl R (.rep p)
          cases dp with
          | non => cases ru; exact PySem.P.repr_of_none ⟨.str _, H, I.tok _, ⟨_, rfl⟩, fin⟩
          | bl b => cases ru; exact PySem.P.repr_of_bool ⟨.str _, H, I.tok _, ⟨_, rfl⟩, fin⟩
          | int i => obtain ⟨t, rfl⟩ := ru; exact PySem.P.repr_of_int (of_decide_eq_true (by simpa [PyData.showable] using c2)) ⟨.str _, H, I.tok _, ⟨_, rfl⟩, fin⟩
          | str y => obtain ⟨t, rfl⟩ := ru; exact PySem.P.repr_of_str ⟨.str _, H, I.tok _, ⟨_, rfl⟩, fin⟩ (hsz := by simpa [PyData.shown] using c3)
          | lst a b =>
            obtain ⟨as, rr⟩ := Dp.reads I _ _ u (.lst a b) ru
            cases ru
            exact PySem.repr_of_reads' rr c2 (PySem.PyData.noDict_hsm (PyData.hasDict_of_canLay _ c1.1)) hgd (by omega) (fun _ _ e => e) (fun h' u' tk hk => ⟨.str _, H, I.kept (t' := tk) hk, ⟨_, rfl⟩, fin⟩) c3
          | tup a b =>
            obtain ⟨as, rr⟩ := Dp.reads I _ _ u (.tup a b) ru
            cases ru
            exact PySem.repr_of_reads' rr c2 (PySem.PyData.noDict_hsm (PyData.hasDict_of_canLay _ c1.1)) hgd (by omega) (fun _ _ e => e) (fun h' u' tk hk => ⟨.str _, H, I.kept (t' := tk) hk, ⟨_, rfl⟩, fin⟩) c3
      · cases e
    · cases e
  · cases e
end

/-! ### the end of a law -/
theorem ints_rd {K : PySem.W.Frag} {G : Nat → Option Addr} {ρ : List Addr} {H : Hp} : ∀ ns : List Int, RDs K G ρ H (ns.map D.int) (ns.map V.int)
  | [] => .nil
  | n :: ns => .cons (.int n) (ints_rd ns)
/-- what the script is at the start -/
def scr (b : Bool) (ns : List Int) : MH := MH.nil.add (if b = true then .kl (ns.map D.int) else .ro (ns.map D.int))
theorem endG {P : Program} {w : World} {K : PySem.W.Frag} {mg mb : Str → Option Value} {G : Nat → Option Addr} {k : Nat} {fa a : Addr} {fd : FuncData} {x : Str} {fm : Fn} {s₁ : Shared} {vs : List Value} {ns : List Int}
    (KX : K.In s₁.heap) (hns : s₁.heap.Ns mainGlobals mg) (hb : s₁.heap.Ns builtinsNs mb) (hbb : ∀ x : Str, x ≠ "__name__" → mb x = bootBuiltins x) (hlim : s₁.heap.NoLimit) (hg : s₁.gens = #[])
    (ha : s₁.heap.get? a = some { cls := .type "list", data := .seq vs.toArray }) (hi : IntsAre vs ns) (hl : ns.length ≤ sizeLine) (hr : Room k callerA)
    (F : ∀ base : Heap, K.In base → base.Ns mainGlobals mg → FnG P w K mg base k fa fd [x] (spM K G 1 fm)) (hbind : ∀ (s : Shared) (u : Value), BindsTo s fd ⟨[u], []⟩ [(x, u)])
    (hm : ∀ b, ∃ h', fm [.ref 0] (scr b ns) = .ok (.bl true) h') :
    codeAny (model P w) callerA (.call (.ref fa) ⟨[.ref a], []⟩) (fun r s' => r = .ok (.ret (.bool true)) ∧ OldK s₁.heap s'.heap ∧ s'.os = s₁.os ∧ AllBare s'.gens) s₁ := by
  have rv := vals_ints hi
  have lenV := hi.length
  -- the two ways that the script may stand: an object of the written part, or one that is known to the object
  have core : ∀ (b : Bool) (H : Hp), (∀ c, c ≠ a → H c = none) → (∀ u, H a = some u → K.lookup a = none ∧ u = .frz { cls := .type "list", data := .seq vs.toArray } (.lst (ns.map V.int))) → HOk P w H s₁.heap →
      RO K G [a] H a (if b = true then .kl (ns.map D.int) else .ro (ns.map D.int)) →
      codeAny (model P w) callerA (.call (.ref fa) ⟨[.ref a], []⟩) (fun r s' => r = .ok (.ret (.bool true)) ∧ OldK s₁.heap s'.heap ∧ s'.os = s₁.os ∧ AllBare s'.gens) s₁ := by
    intro b H hA hS hok hro
    have stays : ∀ {c : Addr} {o : Obj}, s₁.heap.get? c = some o → (c = a → H a = none) → (hidT s₁.heap H).get? c = some o := fun {c o} e n => hidT_get e (by
      by_cases hc : c = a
      · rw [hc]; exact n hc
      · exact hA c hc)
    have nsK : ∀ {c : Addr} {m : Str → Option Value}, s₁.heap.Ns c m → (hidT s₁.heap H).Ns c m := fun {c m} ⟨o, es, ep, e, d, z⟩ => ⟨o, es, ep, stays e (fun hc => by
      rw [hc, ha] at e
      cases e
      have d' : Data.seq vs.toArray _ = Data.dict es ep := d
      cases d'), d, z⟩
    have hKb : K.In (hidT s₁.heap H) := fun c o e => stays (KX c o e) fun hc => by
      subst hc
      cases q : H c with
      | none => rfl
      | some u => rw [(hS u q).1] at e; cases e
    have hM : Mod K mg (hidT s₁.heap H) := ⟨hKb, nsK hns, ⟨mb, nsK hb, hbb⟩, let ⟨mc, h1, h2⟩ := hlim; ⟨mc, nsK h1, h2⟩⟩
    have e0 : Env0 P w K mg (hidT s₁.heap H) callerA [] s₁ H := ⟨rfl, hM, fun _ _ e => of_hidT e, Nat.le_of_eq (hidT_size _ _), trivial, fun c hc => absurd (show c ∈ ([] : List Addr) from hc) (by simp), hok, .of_eq hg⟩
    have one : ∀ (i : Nat) (o : O), (scr b ns).get i = some o → i = 0 ∧ o = (if b = true then .kl (ns.map D.int) else .ro (ns.map D.int)) := fun i o e => by
      unfold scr at e
      rw [MH.get_add] at e
      by_cases hi : i = MH.nil.n
      · rw [if_pos hi] at e; cases e; exact ⟨hi, rfl⟩
      · rw [if_neg hi, MH.get_nil] at e; cases e
    have zero : ∀ (i : Nat) (c : Addr), [a][i]? = some c → i = 0 ∧ c = a := fun i c e => by
      cases i with
      | zero => cases e; exact ⟨rfl, rfl⟩
      | succ i => cases e
    have rel : Rel K G [a] (scr b ns) H := by
      refine ⟨rfl, fun i o e => ?_, fun i c e => ?_, fun i j c o u g1 g2 _ _ e1 e2 => ?_⟩
      · obtain ⟨rfl, rfl⟩ := one i o e
        exact ⟨a, rfl, hro⟩
      · obtain ⟨rfl, rfl⟩ := zero i c e
        exact ⟨_, MH.get_add_same _ _⟩
      · rw [(zero i c e1).1, (zero j c e2).1]
    obtain ⟨h', em⟩ := hm b
    have hsp : spM K G 1 fm [.ref a] H (fun v H' => v = .bl true) fun _ _ _ => False := ⟨[a], scr b ns, [.ref 0], rel, .cons (.ref rfl) .nil, rfl, by
      rw [em]
      intro ρ' H' v _ _ q
      cases q; rfl⟩
    refine codeAny_mono ((F _ hKb (nsK hns)).run callerA [] s₁ H ⟨[.ref a], []⟩ [.ref a] [.ref a] _ _ hr rfl e0 (hbind s₁ (.ref a)) (.cons rfl .nil) hsp) fun r s' h => ?_
    rcases r with e | fl
    · obtain ⟨_, _, _, _, _, _, _, _, _, _, _, _, z⟩ := h
      exact z.elim
    · cases fl with
      | ret u =>
        obtain ⟨v, H', os, bare, un, hok', r', q⟩ := h
        have q' : v = .bl true := q
        subst q'
        obtain rfl : u = Value.bool true := r'
        refine ⟨rfl, OldK.of_keep fun c o e => ?_, os, bare⟩
        cases qc : H c with
        | none => exact un.keep c o e qc (fun z => nomatch z) (by simp)
        | some u =>
          have hc : c = a := by
            by_cases hc : c = a
            · exact hc
            · rw [hA c hc] at qc; cases qc
          subst hc
          obtain ⟨_, rfl⟩ := hS u qc
          obtain ⟨e1, _⟩ := hok c _ qc
          obtain ⟨e2, _⟩ := hok' c _ (un.frzs c _ _ qc)
          rw [e] at e1; cases e1
          exact e2
      | _ => exact h.elim
  cases hk : K.lookup a with
  | some o =>
    have e := KX a o hk
    rw [ha] at e
    cases e
    have sq : ∀ H, SqL K H a (ns.map V.int) := fun H => .inr ⟨_, vs.toArray, _, hk, rfl, rfl, rfl, by rw [List.size_toArray, lenV]; exact hl, by simpa using rv⟩
    exact core true (fun _ => none) (fun _ _ => rfl) (fun u z => nomatch z) (fun b u z => nomatch z) ⟨_, sq, ints_rd ns⟩
  | none =>
    refine core false (fun b => if b = a then some (.frz { cls := .type "list", data := .seq vs.toArray } (.lst (ns.map V.int))) else none) (fun c hc => if_neg hc) (fun u z => ?_) (fun c u z => ?_) ⟨_, _, if_pos rfl, ints_rd ns⟩
    · have z' := (if_pos rfl).symm.trans z
      cases z'
      exact ⟨hk, rfl⟩
    · by_cases hc : c = a
      · have z' := (if_pos hc).symm.trans z
        cases z'
        subst hc
        exact ⟨ha, by rw [List.length_map]; exact hl, vs, _, rv, ha⟩
      · have z' := (if_neg hc).symm.trans z
        cases z'
/-- the goal that the head leaves, from the law's own function here -/
theorem walkG {l : PySem.W.OpenLaw} {n k : Nat} {q : Program} {loose : List Str} {XP : (Str → Option Value) → Heap → Prop} {YP : World → Heap → Prop} {d : DefRec} {K : Params → PySem.W.Frag} {fm : Fn} {x : Str}
    (hn : l.most = some n) (hn2 : n ≤ sizeLine) (hdf : d.params.defaults = []) (hr : Room k callerA)
    (hY : ∀ (w : World) (h : Heap), YP w h → (K w.params).In h)
    (F : ∀ (w : World) (mg : Str → Option Value) (fa : Addr) (h : Heap), (K w.params).In h → h.Ns mainGlobals mg → mg d.name = some (.ref fa) →
      ∃ (fd : FuncData) (G : Nat → Option Addr), (∀ (s : Shared) (u : Value), BindsTo s fd ⟨[u], []⟩ [(x, u)]) ∧
        ∀ base : Heap, (K w.params).In base → base.Ns mainGlobals mg → FnG l.prog w (K w.params) mg base k fa fd [x] (spM (K w.params) G 1 fm))
    (hm : ∀ (b : Bool) (ns : List Int), ns.length ≤ n → ∃ h', fm [.ref 0] (scr b ns) = .ok (.bl true) h') :
    PySem.W.WalkO q loose XP YP l.row.toRowW d [] (fun f vs => PySem.call f vs) := by
  refine Att.attach_call hn hdf fun w s₀ s₁ mg mb fa o pm cd doc a vs ns G Y ho hd hcd hmg hobj hints hlen hg => ?_
  have KX := hY w _ Y
  obtain ⟨fd, GG, hb, hF⟩ := F w mg fa _ KX G.T.g hmg
  exact endG KX G.T.g G.T.b G.T.builtins G.T.nolimit hg hobj hints (Nat.le_trans hlen hn2) hr hF hb fun b => hm b ns hlen
end MM

set_option Elab.async false
set_option linter.all false
set_option maxRecDepth 100000
set_option maxHeartbeats 4000000
set_option autoImplicit false
/-! t[::-1], sorted -/
namespace MM
open PySem PySem.Spec PyProof.Rows L2

section
variable {prog : Program} {w : World} {A : Around} {E : Value → Shared → Prop} {s : Shared}
theorem back_adjust (n : Nat) : Builtin.Slice.sliceAdjust none none (-1) (n : Int) = ((n : Int) - 1, -1) := by
  unfold Builtin.Slice.sliceAdjust
  rfl
theorem back_places (n : Nat) : Builtin.Slice.slicePlaces ((n : Int) - 1) (-1) (-1) = n := by
  unfold Builtin.Slice.slicePlaces
  have h1 : ¬ ((-1 : Int) > 0) := by omega
  simp only [h1, if_false]
  by_cases h : n = 0
  · subst h; rfl
  · have h2 : (-1 : Int) < (n : Int) - 1 := by omega
    simp [h2]
theorem back_applied {sl : Addr} {vk : Value} {n : Nat} {Q : Int × Int × Nat → Shared → Prop} (hs : s.heap.IsSliceOf sl .none .none vk) (pk : IsPart vk (some (-1))) (h : Q ((n : Int) - 1, -1, n) s) :
    wpAny (model prog w) A (Builtin.Slice.sliceApplied (.ref sl) (pure (n : Int))) Q E s := by
  obtain ⟨os, hos, hcs, hds⟩ := id hs
  cases pk with
  | int _ t =>
    unfold Builtin.Slice.sliceApplied Builtin.Slice.sliceFields
    refine wpAny_bind (wpAny_bind (wpAny_field hos hds (x := .none) rfl (wpAny_bind (wpAny_field hos hds (x := .none) rfl (wpAny_bind (wpAny_field hos hds (x := .int (-1) t) rfl (wpAny_pure ?_)))))))
    refine wpAny_bind (slicePart_int ?_)
    show wpAny _ _ (if ((-1 : Int) == 0) = true then _ else _) _ _ s
    rw [if_neg (by decide)]
    refine wpAny_bind (slicePart_none (wpAny_bind (slicePart_none (wpAny_bind (wpAny_pure ?_)))))
    show wpAny _ _ (match Builtin.Slice.sliceAdjust none none (-1) (n : Int) with | (lo, hi) => pure (lo, (-1 : Int), Builtin.Slice.slicePlaces lo hi (-1))) _ _ s
    rw [back_adjust n]
    show wpAny _ _ (pure ((n : Int) - 1, (-1 : Int), Builtin.Slice.slicePlaces ((n : Int) - 1) (-1) (-1))) _ _ s
    rw [back_places]
    exact wpAny_pure h
theorem back_pick (xs : List Value) : ((List.range xs.length).filterMap fun (m : Nat) => xs.toArray[(((xs.length : Int) - 1) + (m : Int) * (-1)).toNat]?) = xs.reverse := by
  have e : ∀ m ∈ List.range xs.length, (fun (m : Nat) => xs.toArray[(((xs.length : Int) - 1) + (m : Int) * (-1)).toNat]?) m = (fun m => xs.reverse[m]?) m := by
    intro m hm
    have hm := List.mem_range.mp hm
    have i : (((xs.length : Int) - 1) + (m : Int) * (-1)).toNat = xs.length - 1 - m := by omega
    show xs.toArray[_]? = xs.reverse[m]?
    rw [i, List.getElem?_reverse hm]
    simp
  have cong : ∀ (l : List Nat), (∀ m ∈ l, (fun (m : Nat) => xs.toArray[(((xs.length : Int) - 1) + (m : Int) * (-1)).toNat]?) m = (fun m => xs.reverse[m]?) m) → l.filterMap (fun (m : Nat) => xs.toArray[(((xs.length : Int) - 1) + (m : Int) * (-1)).toNat]?) = l.filterMap (fun m => xs.reverse[m]?) := by
    intro l
    induction l with
    | nil => intro _; rfl
    | cons a l ih =>
      intro hm
      rw [List.filterMap_cons, List.filterMap_cons, ih fun m q => hm m (List.mem_cons_of_mem _ q)]
      have := hm a List.mem_cons_self
      simp only at this
      rw [this]
  rw [cong _ e]
  have : ∀ ys : List Value, (List.range ys.length).filterMap (fun m => ys[m]?) = ys := by
    intro ys
    induction ys with
    | nil => rfl
    | cons y ys ih =>
      rw [List.length_cons, List.range_succ_eq_map, List.filterMap_cons]
      simp only [List.getElem?_cons_zero]
      rw [List.filterMap_map]
      have e2 : ((fun m => (y :: ys)[m]?) ∘ Nat.succ) = fun m => ys[m]? := by funext m; simp
      rw [e2, ih]
  have l := this xs.reverse
  rw [List.length_reverse] at l
  exact l
theorem getItem_tuple_back {t sl : Addr} {its : List Value} {vk : Value} {Q : Value → Shared → Prop} (ht : IsTup s.heap t its.toArray) (hs : s.heap.IsSliceOf sl .none .none vk) (pk : IsPart vk (some (-1)))
    (h : Q (.ref s.heap.objs.size) { s with heap := s.heap.push { cls := .type "tuple", data := .seq its.reverse.toArray } }) (hsz : its.length ≤ sizeLine) : wpAny (model prog w) A (getItem (.ref t) (.ref sl)) Q E s := by
  have fit : sizeOk (.seq its.reverse.toArray) := by
    show its.reverse.toArray.size ≤ sizeLine
    rw [List.size_toArray, List.length_reverse]
    exact hsz
  obtain ⟨os, hos, hcs, hds⟩ := id hs
  have hTs : s.TypeIs (.ref sl) "slice" := ⟨os, hos, hcs⟩
  unfold getItem
  try with_reducible refine wpAny_holding ?_
  first | refine wpAny_bind (wpAny_pure ?_) | skip
  refine wpAny_bind (wpAny_sequenceKey ht.typeIs (by decide) ?_)
  refine wpAny_bind (wpAny_callSpecial?_slot (name := Str.ofString "__getitem__") ht.typeIs PyProof.Rows.slot_tuple_getitem
    (wpAny_call_entry PyProof.Rows.slot_tuple_getitem ht.typeIs entry_tuple_getitem ?_ (args_tuple_getitem _ _)))
  show wpAny _ _ (Builtin.Tuple.tupleItemsOf (.ref t) >>= _) _ _ s
  refine wpAny_bind (tupleItemsOf_ ht ?_)
  refine wpAny_bind (wpAny_typeOf hTs ?_)
  rw [if_pos (by decide)]
  refine wpAny_bind (back_applied (n := its.toArray.size) hs pk ?_)
  have hno : ¬ (((((its.toArray.size : Nat) : Int) - 1) == 0 && (-1 : Int) == 1 && its.toArray.size == its.toArray.size) = true) := by
    intro q
    rw [Bool.and_eq_true, Bool.and_eq_true] at q
    exact absurd q.1.2 (by decide)
  show wpAny _ _ (if ((((its.toArray.size : Nat) : Int) - 1) == 0 && (-1 : Int) == 1 && its.toArray.size == its.toArray.size) = true then _ else _) _ _ s
  rw [if_neg hno, List.size_toArray, back_pick]
  exact wpAny_bind (m := Builtin.Tuple.tupleExact _) (wpAny_newObj_type (wpAny_pure ⟨_, rfl, wpAny_pure h⟩) fit)
end
section
variable {X : Cx} {G : Nat → Option Addr} {W : WX} {e : Expr} {pos : Pos} {K : PySem.W.Frag} {ρ : List Addr} {H : Hp}
theorem RDs.reverse {ds : List D} {xs : List V} (r : RDs K G ρ H ds xs) : RDs K G ρ H ds.reverse xs.reverse := by
  induction ds generalizing xs with
  | nil => cases r; exact .nil
  | cons d ds ih =>
    cases r with
    | cons a b =>
      rw [List.reverse_cons, List.reverse_cons]
      exact (ih b).append (.cons a .nil)
def backD (x : D) (h : MH) : Option (D × MH) := match x with
  | .tup xs => some (.tup xs.reverse, h)
  | .ref i => match h.seq i with
    | some xs => some (.ref h.n, h.add (.lst xs.reverse))
    | none => none
  | _ => none
/-- x[::-1] -/
theorem me_back {m : Mx} {k : Nat} {p1 p2 p3 : Pos} (he : PE X e (RdE X.K G W m)) : PE X (.Subscript e (.Slice none none (some (.UnaryOp .USub (.Constant (.int 1) k p1) p2)) p3) pos) (RdE X.K G W (eUn backD m)) := by
  refine PE.imp (t := fun σ H Q => RdE X.K G W m σ H fun x H1 => ∃ a, x = .ref a ∧ ((∃ xs, SqL X.K H1 a xs ∧ ∀ p, H1 p = none → Q (.ref p) (upd H1 p (.lst xs.reverse))) ∨ ∃ xs, SqT X.K H1 a xs ∧ ∀ p, H1 p = none → Q (.ref p) (upd H1 p (.tup xs.reverse)))) ⟨fun pins s σ H Q I h => ?_⟩ fun σ H Q q => ?_
  · refine Subscript_ (thn (he.run pins s σ H _ I h) fun v s1 ⟨x, H1, I1, r1, a, ex, q1⟩ => ?_)
    subst ex
    cases r1
    have hst : PO X (some (.UnaryOp .USub (.Constant (.int 1) k p1) p2)) (tPart (tUn (rU fun i => .int (-i)) (tC (.int 1)))) := po_some (pe_un un_neg pe_int)
    refine wpAny_Slice (thn (po_none.run pins s1 σ H1 (fun o H2 => o = none ∧ H2 = H1) I1 ⟨rfl, rfl⟩) fun vl s2 ⟨l, H2, I2, pl, el, e2⟩ => ?_)
    subst el e2
    refine thn (po_none.run pins s2 σ H2 (fun o H3 => o = none ∧ H3 = H2) I2 ⟨rfl, rfl⟩) fun vu s3 ⟨u, H3, I3, pu, eu, e3⟩ => ?_
    subst eu e3
    refine thn (hst.run pins s3 σ H3 (fun o H4 => o = some (-1) ∧ H4 = H3) I3 ⟨1, rfl, -1, rfl, rfl, rfl⟩) fun vs s4 ⟨o, H4, I4, ps, eo, e4⟩ => ?_
    subst eo e4
    cases pl
    cases pu
    have I5 : Inv X pins σ H4 { s4 with heap := s4.heap.push { cls := .type "slice", data := .fields #[.none, .none, vs] } } := I4.kept (t' := s4.toks) fun b ob q => Heap.get?_push_of_some _ q
    rcases q1 with ⟨xs, hx, q⟩ | ⟨xs, hx, q⟩
    · obtain ⟨its, r, ht, hz⟩ := I5.list hx
      show wpAny (model X.prog X.w) X.A (subscriptTail e (.Slice none none (some (.UnaryOp .USub (.Constant (.int 1) k p1) p2)) p3) (.ref a) (.ref s4.heap.objs.size)) (EP X pins σ Q) X.xe { s4 with heap := s4.heap.push { cls := .type "slice", data := .fields #[.none, .none, vs] } }
      refine tail_any (ops := [.ref a, .ref s4.heap.objs.size]) ht.isList.typeIs (PySem.slot_list_getitem.lookup) ?_ (by with_unfolding_all rfl)
      refine wpAny_getItem_list_slice ht.isList (Heap.IsSliceOf.new _ .none .none vs) .none .none ps (by decide) ?_ (by rw [List.size_toArray, ← r.length]; exact hz)
      rw [PySem.W.krv_pick]
      refine ⟨.ref _, _, I5.laid (t' := s4.toks) (o := .lst xs.reverse) (fun b ob q => Heap.get?_push_of_some _ q) (Nat.le_refl _) ?_, rfl, q _ (I5.hok.fresh (Nat.le_refl _))⟩
      exact ⟨by rw [List.length_reverse]; exact hz, _, 0, r.reverse, Heap.get?_push_size _ rfl⟩
    · obtain ⟨its, r, ht, hz⟩ := I5.tuple hx
      show wpAny (model X.prog X.w) X.A (subscriptTail e (.Slice none none (some (.UnaryOp .USub (.Constant (.int 1) k p1) p2)) p3) (.ref a) (.ref s4.heap.objs.size)) (EP X pins σ Q) X.xe { s4 with heap := s4.heap.push { cls := .type "slice", data := .fields #[.none, .none, vs] } }
      refine tail_any (ops := [.ref a, .ref s4.heap.objs.size]) ht.typeIs (PyProof.Rows.slot_tuple_getitem.lookup) ?_ (by with_unfolding_all rfl)
      refine getItem_tuple_back ht (Heap.IsSliceOf.new _ .none .none vs) ps ?_ (by rw [← r.length]; exact hz)
      refine ⟨.ref _, _, I5.laid (t' := s4.toks) (o := .tup xs.reverse) (fun b ob q => Heap.get?_push_of_some _ q) (Nat.le_refl _) ?_, rfl, q _ (I5.hok.fresh (Nat.le_refl _))⟩
      exact ⟨by rw [List.length_reverse]; exact hz, _, r.reverse, ⟨_, Heap.get?_push_size _ rfl, rfl, _, rfl⟩⟩
  · obtain ⟨ρ, h, env, r, re, w⟩ := q
    refine ⟨ρ, h, env, r, re, Wp.bind w fun x h1 ρ1 H1 vx f1 r1 q1 w1 => ?_⟩
    obtain ⟨v, h', eb, k⟩ := w1.opt
    unfold backD at eb
    split at eb
    · cases eb
      cases q1 with
      | tup sa da =>
        refine ⟨_, rfl, .inr ⟨_, sa, fun p np => ?_⟩⟩
        obtain ⟨f2, r2, q2⟩ := new_tup r1 np da.reverse
        exact k _ _ _ f2 r2 q2
    · split at eb
      · rename_i xs es
        cases eb
        obtain ⟨a1, ys, p1, p2, p3⟩ := r1.seq es
        cases q1 with
        | ref ha =>
          rw [ha] at p1; cases p1
          refine ⟨_, rfl, .inl ⟨_, p2, fun p np => ?_⟩⟩
          obtain ⟨f2, r2, q2⟩ := new_lst r1 np p3.reverse
          exact k _ _ _ f2 r2 q2
      · cases eb
    · cases eb

/-! ### sorted -/
def ins {α : Type} (le : α → α → Bool) (x : α) : List α → List α
  | [] => [x]
  | y :: ys => if le x y = true then x :: y :: ys else y :: ins le x ys
def isort {α : Type} (le : α → α → Bool) : List α → List α
  | [] => []
  | x :: xs => ins le x (isort le xs)
theorem mem_ins {α : Type} {le : α → α → Bool} {x z : α} : ∀ {l : List α}, z ∈ ins le x l → z = x ∨ z ∈ l
  | [], h => by simp [ins] at h; exact .inl h
  | y :: ys, h => by
    unfold ins at h
    split at h
    · rcases List.mem_cons.mp h with h | h
      · exact .inl h
      · exact .inr h
    · rcases List.mem_cons.mp h with h | h
      · exact .inr (by rw [h]; exact List.mem_cons_self)
      · exact (mem_ins h).imp id fun q => List.mem_cons_of_mem _ q
theorem ins_pairwise {α : Type} {le : α → α → Bool} (t : PySem.W.TotalLe le) {x : α} : ∀ {l : List α}, l.Pairwise (fun a b => le a b = true) → (ins le x l).Pairwise (fun a b => le a b = true)
  | [], _ => by simp [ins]
  | y :: ys, h => by
    unfold ins
    have h' := List.pairwise_cons.mp h
    split
    · rename_i hc
      refine List.pairwise_cons.mpr ⟨fun z hz => ?_, h⟩
      rcases List.mem_cons.mp hz with q | q
      · rw [q]; exact hc
      · exact t.trans _ _ _ hc (h'.1 z q)
    · rename_i hc
      refine List.pairwise_cons.mpr ⟨fun z hz => ?_, ins_pairwise t h'.2⟩
      rcases mem_ins hz with q | q
      · rw [q]; exact (t.total x y).resolve_left hc
      · exact h'.1 z q
theorem ins_filter {α : Type} {le : α → α → Bool} (t : PySem.W.TotalLe le) {x c : α} : ∀ {l : List α}, (ins le x l).filter (PySem.W.sameRank le c) = (x :: l).filter (PySem.W.sameRank le c)
  | [] => rfl
  | y :: ys => by
    unfold ins
    split
    · rfl
    · rename_i hc
      rw [List.filter_cons, ins_filter t, List.filter_cons (x := x) (xs := ys), List.filter_cons (x := x) (xs := y :: ys), List.filter_cons (x := y) (xs := ys)]
      cases hx : PySem.W.sameRank le c x with
      | false => simp
      | true =>
        cases hy : PySem.W.sameRank le c y with
        | false => simp
        | true =>
          unfold PySem.W.sameRank at hx hy
          rw [Bool.and_eq_true] at hx hy
          exact absurd (t.trans _ _ _ hx.2 hy.1) hc
theorem isort_eq {α : Type} {le : α → α → Bool} (t : PySem.W.TotalLe le) (l : List α) : isort le l = l.mergeSort le := by
  refine PySem.W.sort_unique t ?_ fun c => ?_
  · induction l with
    | nil => exact .nil
    | cons x xs ih => exact ins_pairwise t ih
  · induction l with
    | nil => rfl
    | cons x xs ih => rw [isort, ins_filter t, List.filter_cons, ih, List.filter_cons]
def alikes (ps : List PyData) : Bool := ps.all fun p => ps.all fun q => PySem.W.alike p q
def fullTup : PyData → Bool
  | .tuple (_ :: _) => true
  | _ => false
def noTup : PyData → Bool
  | .none => false
  | .tuple _ => false
  | _ => true
def leP (a b : D × PyData) : Bool := PySem.W.dataLe false Prod.snd a b
def sortedF (ds : List D) (h : MH) : Option (D × MH) := match ds with
  | [.ref i] => match h.seq i with
    | some xs => match snaps (snap h deep) xs with
      | some ps => if alikes ps && (ps.all fullTup || ps.all noTup) && ps.all (fun p => decide (p.depth ≤ 64)) then some (.ref h.n, h.add (.lst ((isort leP (xs.zip ps)).map Prod.fst))) else none
      | none => none
    | none => none
  | _ => none
theorem zip_each {hp : Heap} (hf : ∀ (d : D) (v : V) (u : Value) (p : PyData), RD K G ρ H d v → RelV v u → Dp K H v p → ∃ as, Reads hp u p as) : ∀ {ds : List D} {xs : List V} {us : List Value} {ps : List PyData}, RDs K G ρ H ds xs → Vals xs us → DpAll K H xs ps →
    PySem.W.EachIs (fun (u : Value) (b : D × PyData) => ∃ v, RelV v u ∧ RD K G ρ H b.1 v) us (ds.zip ps) ∧ PySem.W.EachIs (fun (u : Value) (b : D × PyData) => ∃ as, Reads hp u b.2 as) us (ds.zip ps)
  | _, _, _, _, .nil, .nil, .nil => ⟨.nil, .nil⟩
  | _, _, _, _, .cons a b, .cons r t, .cons p q => by
    obtain ⟨h1, h2⟩ := zip_each hf b t q
    exact ⟨.cons ⟨_, r, a⟩ h1, .cons (hf _ _ _ _ a r p) h2⟩
theorem each_vals : ∀ {us : List Value} {bs : List (D × PyData)}, PySem.W.EachIs (fun (u : Value) (b : D × PyData) => ∃ v, RelV v u ∧ RD K G ρ H b.1 v) us bs → ∃ vs, Vals vs us ∧ RDs K G ρ H (bs.map Prod.fst) vs
  | _, _, .nil => ⟨[], .nil, .nil⟩
  | _, _, .cons ⟨v, r, q⟩ t => by
    obtain ⟨vs, h1, h2⟩ := each_vals t
    exact ⟨v :: vs, .cons r h1, .cons q h2⟩
theorem zip_snd : ∀ {ds : List D} {ps : List PyData}, ds.length = ps.length → (ds.zip ps).map Prod.snd = ps
  | [], [], _ => rfl
  | d :: ds, p :: ps, e => by rw [List.zip_cons_cons, List.map_cons, zip_snd (Nat.succ.inj e)]
theorem dps_length : ∀ {xs : List V} {ps : List PyData}, DpAll K H xs ps → xs.length = ps.length
  | _, _, .nil => rfl
  | _, _, .cons _ q => by rw [List.length_cons, List.length_cons, dps_length q]
theorem ok_sorted (hu : X.A.units + 70 < cLine) : CallOK X G (.builtin "sorted") sortedF := by
  intro pins s σ H vs us Q I r q
  obtain ⟨ρ, h, ds, w, h', R, rs, e, k⟩ := q
  unfold sortedF at e
  split at e
  · rename_i i
    split at e
    · rename_i xs es
      split at e
      · rename_i ps ep
        split at e
        · rename_i hc
          cases e
          rw [Bool.and_eq_true, Bool.and_eq_true] at hc
          obtain ⟨⟨c1, c2⟩, c3⟩ := hc
          obtain ⟨a, ys, p1, p2, p3⟩ := R.seq es
          cases rs with
          | cons r1 r2 =>
            cases r2
            cases r1 with
            | ref ha =>
              rw [ha] at p1; cases p1
              rw [Vals.ref1 r]
              obtain ⟨its, rv, hl, hz⟩ := I.list p2
              have dp := snaps_ok (fun d v p a b => snap_ok R deep d v p a b) xs ys ps p3 ep
              obtain ⟨e1, e2⟩ := zip_each (hp := s.heap) (fun d v u p _ ru dp => Dp.reads I p v u dp ru) p3 rv dp
              have hlen : xs.length = ps.length := p3.length.trans (dps_length dp)
              have hsnd := zip_snd hlen
              refine PySem.W.sorted_data (enc := Prod.snd) hl.isList e1 e2 ?_ ?_ (by rw [List.length_zip, ← hlen, Nat.min_self, p3.length]; exact hz) (fun b hb => ?_) fun out ho eo => ?_
              · rw [hsnd]
                intro d hd d' hd'
                exact List.all_eq_true.mp (List.all_eq_true.mp c1 d hd) d' hd'
              · rw [hsnd]
                rw [Bool.or_eq_true] at c2
                rcases c2 with c2 | c2
                · refine .inl fun d hd => ?_
                  have := List.all_eq_true.mp c2 d hd
                  unfold fullTup at this
                  split at this
                  · exact ⟨_, _, rfl⟩
                  · cases this
                · refine .inr fun d hd => ?_
                  have := List.all_eq_true.mp c2 d hd
                  refine ⟨?_, ?_⟩
                  · rintro rfl; cases this
                  · rintro xs rfl; cases this
              · have hb2 : b.2 ∈ ps := (List.of_mem_zip hb).2
                have := of_decide_eq_true (List.all_eq_true.mp c3 b.2 hb2)
                omega
              · obtain ⟨ep', he'⟩ := PyProof.Rows.sortedAll_at s.heap its (List.toArray out)
                obtain ⟨ws, h1, h2⟩ := each_vals eo
                have es' : isort leP (xs.zip ps) = (xs.zip ps).mergeSort (PySem.W.dataLe false Prod.snd) := isort_eq (le := PySem.W.dataLe false Prod.snd) (PySem.W.sortLe_total _ _ _) _
                rw [← es'] at h2
                have np : H (s.heap.objs.size + 1) = none := I.hok.fresh (Nat.le_succ _)
                obtain ⟨f3, r3, q3⟩ := new_lst R np h2
                have wl : ws.length ≤ sizeLine := by
                  rw [h1.length, ho, List.length_zip, ← hlen, Nat.min_self, p3.length]
                  exact hz
                exact ⟨.ref _, upd H (s.heap.objs.size + 1) (.lst ws), I.laid (t' := s.toks) (fun _ _ => PyProof.Rows.sortedAll_old) (Nat.le_succ _) ⟨wl, out, ep', h1, he'⟩, rfl, k _ _ _ f3 r3 q3⟩
        · cases e
      · cases e
    · cases e
  · cases e
end
end MM
namespace MM
open PySem PySem.Spec PyProof.Rows L2
theorem bt_len : bootBuiltins "len" = some (.builtin "len") := by decide +kernel
theorem bt_abs : bootBuiltins "abs" = some (.builtin "abs") := by decide +kernel
theorem bt_max : bootBuiltins "max" = some (.builtin "max") := by decide +kernel
theorem bt_min : bootBuiltins "min" = some (.builtin "min") := by decide +kernel
theorem bt_isinstance : bootBuiltins "isinstance" = some (.builtin "isinstance") := by decide +kernel
theorem bt_all : bootBuiltins "all" = some (.builtin "all") := by decide +kernel
theorem bt_any : bootBuiltins "any" = some (.builtin "any") := by decide +kernel
theorem bt_sum : bootBuiltins "sum" = some (.builtin "sum") := by decide +kernel
theorem bt_repr : bootBuiltins "repr" = some (.builtin "repr") := by decide +kernel
theorem bt_sorted : bootBuiltins "sorted" = some (.builtin "sorted") := by decide +kernel
theorem bt_int : bootBuiltins "int" = some (.type "int") := by decide +kernel
theorem bt_bool : bootBuiltins "bool" = some (.type "bool") := by decide +kernel
theorem bt_str : bootBuiltins "str" = some (.type "str") := by decide +kernel
theorem bt_tuple : bootBuiltins "tuple" = some (.type "tuple") := by decide +kernel
theorem bt_list : bootBuiltins "list" = some (.type "list") := by decide +kernel
theorem bt_dict : bootBuiltins "dict" = some (.type "dict") := by decide +kernel
theorem hu65 {k : Nat} {A : Around} (r : Room k A) : A.units + 65 < cLine := by have := r.un; omega
theorem hu66 {k : Nat} {A : Around} (r : Room k A) : A.units + 66 < cLine := by have := r.un; omega
theorem hu70 {k : Nat} {A : Around} (r : Room k A) : A.units + 70 < cLine := by have := r.un; omega
end MM

set_option Elab.async false
set_option linter.all false
set_option maxRecDepth 100000
set_option maxHeartbeats 4000000
set_option autoImplicit false
/-! [elt for .. for ..]; three names at once; += -/
namespace MM
open PySem PySem.Spec PyProof.Rows L2
section
variable {X : Cx} {G : Nat → Option Addr} {W : WX} {e : Expr} {pos : Pos}
theorem wipe_wipe (vs : List Nat) (σ : L2.St) : L2.wipe (L2.wipe σ vs) vs = L2.wipe σ vs := by
  have key : ∀ (ws : List Nat) (τ : L2.St), (∀ i ∈ ws, i ∈ vs) → L2.wipe (L2.wipe τ ws) vs = L2.wipe τ vs := by
    intro ws
    induction ws with
    | nil => intro τ _; rfl
    | cons w ws ih =>
      intro τ hm
      show L2.wipe ((L2.wipe τ ws).set w none) vs = _
      rw [wipe_set (hm w List.mem_cons_self)]
      exact ih τ fun i hi => hm i (List.mem_cons_of_mem _ hi)
  exact key vs σ fun i hi => hi
/-- the loop of a comprehension's last for -/
theorem lc_loop {K : PySem.W.Frag} {it : MI} {J : It} {ρ0 : List Addr} {H0 : Hp} {h0 hE : MH} {t : Tg} {tt : Mt} {te : Mx} {env : ME} {σ : L2.St} {vs : List Nat} {dI : Nat} {D : Addr} {Nxt : Hp → Prop}
    (q0 : RIt K G ρ0 H0 it J) (r0 : Rel K G ρ0 h0 H0) (re0 : REnv K G ρ0 H0 env (L2.wipe σ vs)) (atD : ρ0[dI]? = some D) (ho : ∀ i ∈ t.slots, i ∈ vs) (el : lcL it t tt te env dI it.n 0 h0 = some hE)
    (fin : ∀ ρ H, Fut K ρ0 H0 ρ H → Rel K G ρ hE H → Nxt H) :
    ∃ W1 : Nat → Nat → Hp → Prop, (∃ m, W1 0 m H0) ∧ ∀ i m H, W1 i m H → (J.stop i H ∧ Nxt H) ∨ (J.go i H ∧ ∃ Nx : Hp → Prop, (∀ H', Nx H' → ∃ m', m' < m ∧ W1 (i + 1) m' H') ∧ ∀ x H', J.yld i H x H' →
      RdG K G t x (L2.wipe σ vs) H' fun σ2 H2 => L2.wipe σ2 vs = L2.wipe σ vs ∧ RdT K G W0 tt σ2 H2 fun b H3 => if b = true then RdE K G W0 te σ2 H3 fun y H4 => ∃ acc, H4 D = some (.lst acc) ∧ acc.length < sizeLine ∧ Nx (upd H4 D (.lst (acc ++ [y]))) else Nx H3) := by
  refine ⟨fun i m H => m = it.n - i ∧ i ≤ it.n ∧ ∃ (ρ : List Addr) (h : MH), Fut K ρ0 H0 ρ H ∧ Rel K G ρ h H ∧ lcL it t tt te env dI (it.n - i) i h = some hE, ⟨it.n, rfl, Nat.zero_le _, _, _, .refl, r0, el⟩, ?_⟩
  rintro i m H ⟨rfl, hi, ρ, h, f, r, el⟩
  obtain ⟨q1, q2⟩ := q0 i ρ h H f r
  by_cases hlt : i < it.n
  · obtain ⟨rem, er⟩ : ∃ rem, it.n - i = rem + 1 := ⟨it.n - i - 1, by omega⟩
    rw [er, lcL] at el
    split at el
    · cases el
    · rename_i d ed
      split at el
      · cases el
      · rename_i e1 ea
        obtain ⟨hgo, hy⟩ := q1 d hlt ed
        refine .inr ⟨hgo, fun H' => ∃ (ρ : List Addr) (h : MH), Fut K ρ0 H0 ρ H' ∧ Rel K G ρ h H' ∧ lcL it t tt te env dI rem (i + 1) h = some hE, fun H' p => ?_, fun x H' y => ?_⟩
        · obtain ⟨ρ', h', g1, g2, g3⟩ := p
          exact ⟨it.n - (i + 1), by omega, rfl, by omega, ρ', h', g1, g2, by rw [show it.n - (i + 1) = rem by omega]; exact g3⟩
        · obtain ⟨f1, r1, rd⟩ := hy x H' y
          refine ⟨ρ, h, env, d, e1, r1, re0.fut (f.trans f1), rd, ea, fun σ2 re2 wp => ⟨by rw [wp vs ho]; exact wipe_wipe vs σ, ρ, h, e1, r1, re2, ?_⟩⟩
          cases eb : tt e1 h with
          | exc C fs h2 => rw [eb] at el; cases el
          | bad => rw [eb] at el; cases el
          | ok k h2 =>
            intro ρ3 H3 b f3 r3 q3
            subst q3
            cases k with
            | false =>
              rw [eb] at el
              exact ⟨ρ3, h2, (f.trans f1).trans f3, r3, el⟩
            | true =>
              rw [eb] at el
              refine ⟨ρ3, h2, e1, r3, re2.fut f3, ?_⟩
              cases ex : te e1 h2 with
              | exc C fs h2 => simp only [ex] at el; cases el
              | bad => simp only [ex] at el; cases el
              | ok yv h3 =>
                simp only [ex] at el
                intro ρ4 H4 vy f4 r4 q4
                have fA := ((f.trans f1).trans f3).trans f4
                unfold pushD at el
                cases eg : h3.get dI with
                | none => simp only [eg] at el; cases el
                | some ob =>
                  cases ob with
                  | lst acc =>
                    simp only [eg] at el
                    by_cases hz : acc.length < sizeLine
                    · rw [if_pos hz] at el
                      obtain ⟨a1, ys, p1, p2, p3⟩ := r4.lst eg
                      rw [fA.at atD] at p1; cases p1
                      obtain ⟨fu, ru⟩ := r4.lset eg (fA.at atD) p2 (p3.append (.cons q4 .nil))
                      exact ⟨ys, p2, by rw [← p3.length]; exact hz, ρ4, _, fA.trans fu, ru, el⟩
                    · rw [if_neg hz] at el; cases el
                  | _ => simp only [eg] at el; cases el
  · have e : i = it.n := by omega
    subst e
    rw [Nat.sub_self, lcL] at el
    split at el
    · rename_i ef
      cases el
      exact .inl ⟨q2 ef, fin ρ H f r⟩
    · cases el
/-- the first for of two -/
def lc2L (it : MI) (t : Tg) (tt : Mt) (mi1 : Mi) (t1 : Tg) (tt1 : Mt) (te : Mx) (env : ME) (vs1 : List Nat) (L : Nat) : Nat → Nat → MH → Option MH
  | 0, _, h => if it.fin h = true then some h else none
  | r + 1, k, h => match it.at h k with
    | none => none
    | some d => match asg h t d env with
      | none => none
      | some e1 => match tt e1 h with
        | .ok true h2 => match mi1 e1 h2 with
          | .ok it1 h3 => match lcL it1 t1 tt1 te (wipeE e1 vs1) L it1.n 0 h3 with
            | some h4 => lc2L it t tt mi1 t1 tt1 te env vs1 L r (k + 1) h4
            | none => none
          | _ => none
        | .ok false h2 => lc2L it t tt mi1 t1 tt1 te env vs1 L r (k + 1) h2
        | _ => none
def eLc2 (mi : Mi) (t : Tg) (tt : Mt) (mi1 : Mi) (t1 : Tg) (tt1 : Mt) (te : Mx) (own vs1 : List Nat) : Mx := fun env h => (mi env h).bind fun it h1 => match lc2L it t tt mi1 t1 tt1 te (wipeE env own) vs1 h1.n it.n 0 (h1.add (.lst [])) with
  | some h2 => .ok (.ref h1.n) h2
  | none => .bad
theorem lc2_rd {mi mi1 : Mi} {t t1 : Tg} {tt tt1 : Mt} {te : Mx} {own vs1 : List Nat} {σ : L2.St} {H : Hp} {Q : VK} (ho : ∀ i ∈ t.slots, i ∈ own) (ho1 : ∀ i ∈ t1.slots, i ∈ vs1) (q : RdE X.K G W (eLc2 mi t tt mi1 t1 tt1 te own vs1) σ H Q) :
    tLc2 (RdI X.K G W mi) (RdG X.K G t) (RdT X.K G W0 tt) (RdI X.K G W0 mi1) (RdG X.K G t1) (RdT X.K G W0 tt1) (RdE X.K G W0 te) own vs1 σ H Q := by
  obtain ⟨ρ, h, env, r, re, w⟩ := q
  refine ⟨ρ, h, env, r, re, Wp.bind w fun it h1 ρ0 H0 J f0 r0 q0 w0 => ?_⟩
  have re0 := (re.fut f0).wipe own
  intro D nD
  cases el : lc2L it t tt mi1 t1 tt1 te (wipeE env own) vs1 h1.n it.n 0 (h1.add (.lst [])) with
  | none => rw [el] at w0; exact w0.elim
  | some hE =>
    rw [el] at w0
    obtain ⟨fN, rN, dN⟩ := new_lst r0 nD RDs.nil
    have atD : ∀ {ρ H}, Fut X.K (ρ0 ++ [D]) (upd H0 D (.lst [])) ρ H → ρ[h1.n]? = some D := fun f => f.at (by rw [← r0.len]; simp)
    refine ⟨fun i m H => m = it.n - i ∧ i ≤ it.n ∧ ∃ (ρ : List Addr) (h : MH), Fut X.K (ρ0 ++ [D]) (upd H0 D (.lst [])) ρ H ∧ Rel X.K G ρ h H ∧ lc2L it t tt mi1 t1 tt1 te (wipeE env own) vs1 h1.n (it.n - i) i h = some hE,
      ⟨it.n, rfl, Nat.zero_le _, _, _, .refl, rN, el⟩, ?_⟩
    rintro i m H ⟨rfl, hi, ρ, h, f, r, el⟩
    obtain ⟨q1, q2⟩ := q0 i ρ h H (fN.trans f) r
    by_cases hlt : i < it.n
    · obtain ⟨rem, er⟩ : ∃ rem, it.n - i = rem + 1 := ⟨it.n - i - 1, by omega⟩
      rw [er, lc2L] at el
      split at el
      · cases el
      · rename_i d ed
        split at el
        · cases el
        · rename_i e1 ea
          obtain ⟨hgo, hy⟩ := q1 d hlt ed
          have step : ∀ (ρ : List Addr) (h : MH) (H' : Hp), Fut X.K (ρ0 ++ [D]) (upd H0 D (.lst [])) ρ H' → Rel X.K G ρ h H' → lc2L it t tt mi1 t1 tt1 te (wipeE env own) vs1 h1.n rem (i + 1) h = some hE →
              ∃ (ρ : List Addr) (h : MH), Fut X.K (ρ0 ++ [D]) (upd H0 D (.lst [])) ρ H' ∧ Rel X.K G ρ h H' ∧ lc2L it t tt mi1 t1 tt1 te (wipeE env own) vs1 h1.n rem (i + 1) h = some hE := fun ρ h H' a b c => ⟨ρ, h, a, b, c⟩
          refine .inr ⟨hgo, fun H' => ∃ (ρ : List Addr) (h : MH), Fut X.K (ρ0 ++ [D]) (upd H0 D (.lst [])) ρ H' ∧ Rel X.K G ρ h H' ∧ lc2L it t tt mi1 t1 tt1 te (wipeE env own) vs1 h1.n rem (i + 1) h = some hE, fun H' p => ?_, fun x H' y => ?_⟩
          · obtain ⟨ρ', h', g1, g2, g3⟩ := p
            exact ⟨it.n - (i + 1), by omega, rfl, by omega, ρ', h', g1, g2, by rw [show it.n - (i + 1) = rem by omega]; exact g3⟩
          · obtain ⟨f1, r1, rd⟩ := hy x H' y
            refine ⟨ρ, h, wipeE env own, d, e1, r1, re0.fut ((fN.trans f).trans f1), rd, ea, fun σ2 re2 wp => ⟨by rw [wp own ho]; exact wipe_wipe own σ, ρ, h, e1, r1, re2, ?_⟩⟩
            cases eb : tt e1 h with
            | exc C fs h2 => rw [eb] at el; cases el
            | bad => rw [eb] at el; cases el
            | ok k h2 =>
              intro ρ3 H3 b f3 r3 q3
              subst q3
              cases k with
              | false =>
                rw [eb] at el
                exact step ρ3 h2 H3 ((f.trans f1).trans f3) r3 el
              | true =>
                rw [eb] at el
                refine ⟨ρ3, h2, e1, r3, re2.fut f3, ?_⟩
                cases ei : mi1 e1 h2 with
                | exc C fs h2 => simp only [ei] at el; cases el
                | bad => simp only [ei] at el; cases el
                | ok it1 h3 =>
                  simp only [ei] at el
                  intro ρ4 H4 J1 f4 r4 q4
                  have fA := ((f.trans f1).trans f3).trans f4
                  cases e5 : lcL it1 t1 tt1 te (wipeE e1 vs1) h1.n it1.n 0 h3 with
                  | none => simp only [e5] at el; cases el
                  | some h4 =>
                    simp only [e5] at el
                    exact lc_loop q4 r4 (((re2.fut f3).fut f4).wipe vs1) (atD fA) ho1 e5 fun ρ5 H5 f5 r5 => step ρ5 h4 H5 (fA.trans f5) r5 el
    · have e : i = it.n := by omega
      subst e
      rw [Nat.sub_self, lc2L] at el
      split at el
      · rename_i ef
        cases el
        exact .inl ⟨q2 ef, w0 _ _ _ (fN.trans f) r (.ref (atD f))⟩
      · cases el
section
variable {elt tg iter tg1 iter1 : Expr} {ifs ifs1 : List Expr} {scope : Scope} {own : List (Str × Nat)} {vs1 : List Nat} {mi mi1 : Mi} {t t1 : Tg} {tt tt1 : Mt} {te : Mx}
theorem me_lc2 (hc : X.calm = true) (hN : X.N.Nodup) (hi : PI X tg iter (RdI X.K G W mi)) (ok : BlkOk X.N X.env.scope scope own) (ho : ∀ i ∈ t.slots, i ∈ own.map (·.2)) (ho1 : ∀ i ∈ t1.slots, i ∈ vs1) (hv : ∀ i ∈ vs1, i ∈ own.map (·.2))
    (hg : ∀ (s : Shared) (H : Hp) (C : Addr) (cl : List (Str × Addr)) (fp : List Addr), PG (X.blk s H scope (compEnvC scope cl C X.env) fp) tg (RdG X.K G t)) (ht : ∀ (s : Shared) (H : Hp) (C : Addr) (cl : List (Str × Addr)) (fp : List Addr), PTs (X.blk s H scope (compEnvC scope cl C X.env) fp) ifs (RdT X.K G W0 tt))
    (hi1 : ∀ (s : Shared) (H : Hp) (C : Addr) (cl : List (Str × Addr)) (fp : List Addr), PI (X.blk s H scope (compEnvC scope cl C X.env) fp) tg1 iter1 (RdI X.K G W0 mi1))
    (hg1 : ∀ (s : Shared) (H : Hp) (C : Addr) (cl : List (Str × Addr)) (fp : List Addr), PG (X.blk s H scope (compEnvC scope cl C X.env) fp) tg1 (RdG X.K G t1)) (ht1 : ∀ (s : Shared) (H : Hp) (C : Addr) (cl : List (Str × Addr)) (fp : List Addr), PTs (X.blk s H scope (compEnvC scope cl C X.env) fp) ifs1 (RdT X.K G W0 tt1))
    (he : ∀ (s : Shared) (H : Hp) (C : Addr) (cl : List (Str × Addr)) (fp : List Addr), PE (X.blk s H scope (compEnvC scope cl C X.env) fp) elt (RdE X.K G W0 te)) (hs : ∀ x, foldedSetIterable iter X.env x = pure x := by intro _; rfl) (hs1 : ∀ env x, foldedSetIterable iter1 env x = pure x := by intro _ _; rfl) :
    PE X (.ListComp elt [⟨tg, iter, ifs, 0⟩, ⟨tg1, iter1, ifs1, 0⟩] scope pos) (RdE X.K G W (eLc2 mi t tt mi1 t1 tt1 te (own.map (·.2)) vs1)) := PE.imp (pe_lc2 hc hN hi ok hv hg ht hi1 hg1 ht1 he hs hs1) fun σ H Q q => lc2_rd ho ho1 q
theorem ms_setLc2 {i : Nat} {y : Str} {py spos : Pos} (hc : X.calm = true) (hN : X.N.Nodup) (hy : X.N[i]? = some y) (hyl : X.env.scope.names.lookup y = some .local)
    (hsw : swapsWith (.ListComp elt [⟨tg, iter, ifs, 0⟩, ⟨tg1, iter1, ifs1, 0⟩] scope pos) (some (.Name y py)) spos.line X.env = pure true) (hi : PI X tg iter (RdI X.K G W mi)) (ok : BlkOk X.N X.env.scope scope own) (ho : ∀ i ∈ t.slots, i ∈ own.map (·.2)) (ho1 : ∀ i ∈ t1.slots, i ∈ vs1) (hv : ∀ i ∈ vs1, i ∈ own.map (·.2))
    (hg : ∀ (s : Shared) (H : Hp) (C : Addr) (cl : List (Str × Addr)) (fp : List Addr), PG (X.blk s H scope (compEnvC scope cl C X.env) fp) tg (RdG X.K G t)) (ht : ∀ (s : Shared) (H : Hp) (C : Addr) (cl : List (Str × Addr)) (fp : List Addr), PTs (X.blk s H scope (compEnvC scope cl C X.env) fp) ifs (RdT X.K G W0 tt))
    (hi1 : ∀ (s : Shared) (H : Hp) (C : Addr) (cl : List (Str × Addr)) (fp : List Addr), PI (X.blk s H scope (compEnvC scope cl C X.env) fp) tg1 iter1 (RdI X.K G W0 mi1))
    (hg1 : ∀ (s : Shared) (H : Hp) (C : Addr) (cl : List (Str × Addr)) (fp : List Addr), PG (X.blk s H scope (compEnvC scope cl C X.env) fp) tg1 (RdG X.K G t1)) (ht1 : ∀ (s : Shared) (H : Hp) (C : Addr) (cl : List (Str × Addr)) (fp : List Addr), PTs (X.blk s H scope (compEnvC scope cl C X.env) fp) ifs1 (RdT X.K G W0 tt1))
    (he : ∀ (s : Shared) (H : Hp) (C : Addr) (cl : List (Str × Addr)) (fp : List Addr), PE (X.blk s H scope (compEnvC scope cl C X.env) fp) elt (RdE X.K G W0 te)) (hs : ∀ x, foldedSetIterable iter X.env x = pure x := by intro _; rfl) (hs1 : ∀ env x, foldedSetIterable iter1 env x = pure x := by intro _ _; rfl) :
    PS X (.Assign [.Name y py] (.ListComp elt [⟨tg, iter, ifs, 0⟩, ⟨tg1, iter1, ifs1, 0⟩] scope pos) spos) (RdS X.K G W (sSet i (eLc2 mi t tt mi1 t1 tt1 te (own.map (·.2)) vs1))) := by
  refine PS.imp (L2.ps_setLc2 hc hN hy hyl hsw hi ok hv hg ht hi1 hg1 ht1 he hs hs1) fun D σ H q => ?_
  obtain ⟨ρ, h, env, r, re, w⟩ := q
  exact lc2_rd (G := G) (W := W) ho ho1 ⟨ρ, h, env, r, re, WpS.bind w re fun x h1 ρ1 H1 vx f1 r1 q1 re1 w1 => w1.go r1 (re1.set q1)⟩
end
/-- a, b, c = x, y, z (plain names) -/
def sPar3 (i j l : Nat) (ms : Ma) : Ms := fun env h => (ms env h).toS env fun vs h1 => match vs with
  | [u, v, w] => .nx (((env.set i (some u)).set j (some v)).set l (some w)) h1
  | _ => .bad
theorem ms_par3 {i j l : Nat} {x y z : Str} {a b c : Expr} {ms : Ma} {px py pz pt : Pos} {kt k2 : Nat} {pt2 : Pos} (hc : X.calm = true) (hN : X.N.Nodup) (hi : X.N[i]? = some x) (hj : X.N[j]? = some y) (hl : X.N[l]? = some z) (hij : i ≠ j) (hil : i ≠ l) (hjl : j ≠ l)
    (hx : X.env.scope.names.lookup x = some .local) (hy : X.env.scope.names.lookup y = some .local) (hz : X.env.scope.names.lookup z = some .local) (ha : PA X [a, b, c] (RdA X.K G W ms))
    (hw : swappedStores [.Tuple [.Name x px, .Name y py, .Name z pz] kt pt] (.Tuple [a, b, c] k2 pt2) X.env = pure (some [x, y, z]) := by rfl)
    (hs : swapsWithSole [.Tuple [.Name x px, .Name y py, .Name z pz] kt pt] (.Tuple [a, b, c] k2 pt2) pos.line X.env = pure false := by rfl) :
    PS X (.Assign [.Tuple [.Name x px, .Name y py, .Name z pz] kt pt] (.Tuple [a, b, c] k2 pt2) pos) (RdS X.K G W (sPar3 i j l ms)) := by
  refine PS.imp (L2.ps_par3 hc hN hi hj hl hij hil hjl hx hy hz ha hw hs) fun D σ H q => ?_
  obtain ⟨ρ, h, env, r, re, w⟩ := q
  refine ⟨ρ, h, env, r, re, WpS.bind w re fun vs h1 ρ1 H1 us f1 r1 q1 re1 w1 => ?_⟩
  cases q1 with
  | nil => exact w1.elim
  | cons a1 b1 =>
    cases b1 with
    | nil => exact w1.elim
    | cons a2 b2 =>
      cases b2 with
      | nil => exact w1.elim
      | cons a3 b3 =>
        cases b3 with
        | nil => exact ⟨_, _, _, rfl, w1.go r1 (((re1.set a1).set a2).set a3)⟩
        | cons a4 b4 => exact w1.elim
def iaddD (a b : D) (h : MH) : Option (D × MH) := match a, b with
  | .int i, .int j => some (.int (i + j), h)
  | _, _ => none
theorem ok_iadd : OpOK X G (inplaceOp .Add) iaddD := by
  intro pins s σ H x y v u Q I rx ry q
  obtain ⟨ρ, h, a, b, w, h', R, ra, rb, e, k⟩ := q
  unfold iaddD at e
  split at e
  · cases e; cases ra; cases rb
    exact iop_add pins s σ H _ _ v u Q I rx ry ⟨_, _, rfl, rfl, k ρ H _ .refl R (.int _)⟩
  · cases e
theorem ok_isub : OpOK X G (inplaceOp .Sub) subD := by
  intro pins s σ H x y v u Q I rx ry q
  obtain ⟨ρ, h, a, b, w, h', R, ra, rb, e, k⟩ := q
  unfold subD at e
  split at e
  · cases e; cases ra; cases rb
    exact iop_sub pins s σ H _ _ v u Q I rx ry ⟨_, _, rfl, rfl, k ρ H _ .refl R (.int _)⟩
  · cases e
end
end MM

set_option Elab.async false
set_option linter.all false
set_option maxRecDepth 100000
set_option maxHeartbeats 4000000
set_option autoImplicit false
/-! one function for another: what a caller may take in place of what the text yields -/
namespace MM
open PySem PySem.Spec PyProof.Rows L2

/-! ### values that name objects below n alone -/
mutual
def D.lo (n : Nat) : D → Bool
  | .ref i => Nat.blt i n
  | .tup xs => D.los n xs
  | _ => true
def D.los (n : Nat) : List D → Bool
  | [] => true
  | x :: xs => x.lo n && D.los n xs
end
def loF {κ : Type} (n : Nat) (fs : List (κ × D)) : Bool := fs.all fun p => p.2.lo n
def O.lo (n : Nat) : O → Bool
  | .lst xs => D.los n xs
  | .ro xs => D.los n xs
  | .kl xs => D.los n xs
  | .ins _ fs => loF n fs
  | .dct ks => loF n ks
  | .rct ks => loF n ks
  | .dt ks => loF n ks
  | .rdt ks => loF n ks
section
variable {K : PySem.W.Frag} {G : Nat → Option Addr} {ρ : List Addr} {H : Hp} {h : MH}
theorem at_take {n i : Nat} {a : Addr} (e : ρ[i]? = some a) (hi : i < n) : (ρ.take n)[i]? = some a := by rw [List.getElem?_take_of_lt hi]; exact e
mutual
theorem RD.take {n : Nat} : ∀ {d : D} {v : V}, RD K G ρ H d v → d.lo n = true → RD K G (ρ.take n) H d v
  | _, _, .non, _ => .non
  | _, _, .bl b, _ => .bl b
  | _, _, .int i, _ => .int i
  | _, _, .str x, _ => .str x
  | _, _, .tup a b, q => .tup a (RDs.takeN b (by simpa [D.lo] using q))
  | _, _, .ref e, q => .ref (at_take e (by simpa [D.lo] using q))
  | _, _, .ty n, _ => .ty n
  | _, _, .rep n, _ => .rep n
  | _, _, .stat e, _ => .stat e
theorem RDs.takeN {n : Nat} : ∀ {d : List D} {v : List V}, RDs K G ρ H d v → D.los n d = true → RDs K G (ρ.take n) H d v
  | _, _, .nil, _ => .nil
  | _, _, .cons a b, q => by
    rw [D.los, Bool.and_eq_true] at q
    exact .cons (RD.take a q.1) (RDs.takeN b q.2)
end
theorem RFs.take {κ : Type} {n : Nat} : ∀ {d : List (κ × D)} {v : List (κ × V)}, RFs K G ρ H d v → loF n d = true → RFs K G (ρ.take n) H d v
  | _, _, .nil, _ => .nil
  | _, _, .cons a b, q => by
    rw [loF, List.all_cons, Bool.and_eq_true] at q
    exact .cons (a.take q.1) (RFs.take b q.2)
mutual
theorem nk_lo (n : Nat) : ∀ {d : D} {k : NestedKey}, nk d = some k → d.lo n = true
  | .non, _, e => rfl
  | .int i, _, e => rfl
  | .tup xs, _, e => by
    rw [nk, Option.map_eq_some_iff] at e
    obtain ⟨ks, e1, rfl⟩ := e
    rw [D.lo]; exact nks_lo n e1
  | .bl _, _, e => nomatch e
  | .str _, _, e => nomatch e
  | .ref _, _, e => nomatch e
  | .ty _, _, e => nomatch e
  | .stat _, _, e => nomatch e
  | .rep _, _, e => nomatch e
theorem nks_lo (n : Nat) : ∀ {xs : List D} {ks : List NestedKey}, nks xs = some ks → D.los n xs = true
  | [], _, e => rfl
  | x :: xs, _, e => by
    rw [nks] at e
    cases e1 : nk x with
    | none => rw [e1] at e; cases e
    | some k =>
      rw [e1] at e
      simp only [Option.map_eq_some_iff] at e
      obtain ⟨ks, e2, rfl⟩ := e
      rw [D.los, nk_lo n e1, nks_lo n e2]; rfl
end
theorem RKs.take {n : Nat} : ∀ {d : List (D × D)} {v : List (NestedKey × Addr × V)}, RKs K G ρ H d v → loF n d = true → RKs K G (ρ.take n) H d v
  | _, _, .nil, _ => .nil
  | _, _, .cons e a b c, q => by
    rw [loF, List.all_cons, Bool.and_eq_true] at q
    exact .cons e (a.take (nk_lo n e)) (b.take q.1) (RKs.take c q.2)
theorem RO.take {n : Nat} {a : Addr} {o : O} (r : RO K G ρ H a o) (q : o.lo n = true) : RO K G (ρ.take n) H a o := by
  cases o with
  | lst ds => obtain ⟨xs, e, z⟩ := r; exact ⟨xs, e, z.takeN q⟩
  | ro ds => obtain ⟨o, xs, e, z⟩ := r; exact ⟨o, xs, e, z.takeN q⟩
  | kl ds => obtain ⟨xs, e, z⟩ := r; exact ⟨xs, e, z.takeN q⟩
  | ins C fs => obtain ⟨c, dx, vs, e0, e, z, nd⟩ := r; exact ⟨c, dx, vs, e0, e, z.take q, nd⟩
  | dct ks => obtain ⟨vs, e, z⟩ := r; exact ⟨vs, e, z.take q⟩
  | rct ks => obtain ⟨o, vs, e, z⟩ := r; exact ⟨o, vs, e, z.take q⟩
  | dt ks => obtain ⟨vs, e, y, z⟩ := r; exact ⟨vs, e, y, z.take q⟩
  | rdt ks => obtain ⟨o, vs, e, y, z⟩ := r; exact ⟨o, vs, e, y, z.take q⟩
mutual
theorem RD.lo {n : Nat} (hn : ρ.length = n) : ∀ {d : D} {v : V}, RD K G ρ H d v → d.lo n = true
  | _, _, .non => rfl
  | _, _, .bl b => rfl
  | _, _, .int i => rfl
  | _, _, .str x => rfl
  | _, _, .tup a b => by rw [D.lo]; exact RDs.los hn b
  | _, _, .ref e => by
    have := (List.getElem?_eq_some_iff.mp e).1
    simp [D.lo]; omega
  | _, _, .ty n => rfl
  | _, _, .rep n => rfl
  | _, _, .stat e => rfl
theorem RDs.los {n : Nat} (hn : ρ.length = n) : ∀ {d : List D} {v : List V}, RDs K G ρ H d v → D.los n d = true
  | _, _, .nil => rfl
  | _, _, .cons a b => by rw [D.los, RD.lo hn a, RDs.los hn b]; rfl
end
theorem RFs.lo {κ : Type} {n : Nat} (hn : ρ.length = n) : ∀ {d : List (κ × D)} {v : List (κ × V)}, RFs K G ρ H d v → loF n d = true
  | _, _, .nil => rfl
  | _, _, .cons a b => by rw [loF, List.all_cons, a.lo hn]; exact RFs.lo hn b
theorem RKs.lo {n : Nat} (hn : ρ.length = n) : ∀ {d : List (D × D)} {v : List (NestedKey × Addr × V)}, RKs K G ρ H d v → loF n d = true
  | _, _, .nil => rfl
  | _, _, .cons e a b c => by rw [loF, List.all_cons, b.lo hn]; exact RKs.lo hn c
theorem RO.lo {n : Nat} (hn : ρ.length = n) {a : Addr} {o : O} (r : RO K G ρ H a o) : o.lo n = true := by
  cases o with
  | lst ds => obtain ⟨xs, e, z⟩ := r; exact z.los hn
  | ro ds => obtain ⟨o, xs, e, z⟩ := r; exact z.los hn
  | kl ds => obtain ⟨xs, e, z⟩ := r; exact z.los hn
  | ins C fs => obtain ⟨c, dx, vs, e0, e, z, nd⟩ := r; exact z.lo hn
  | dct ks => obtain ⟨vs, e, z⟩ := r; exact z.lo hn
  | rct ks => obtain ⟨o, vs, e, z⟩ := r; exact z.lo hn
  | dt ks => obtain ⟨vs, e, y, z⟩ := r; exact z.lo hn
  | rdt ks => obtain ⟨o, vs, e, y, z⟩ := r; exact z.lo hn
end
/-- the memory h with nothing but what it names, within h2 -/
structure Sub (h h2 : MH) : Prop where
  le : h.n ≤ h2.n
  ob : ∀ i o, h.get i = some o → i < h.n ∧ h2.get i = some o ∧ o.lo h.n = true
  full : ∀ i, i < h.n → ∃ o, h.get i = some o
theorem Rel.sub {K : PySem.W.Frag} {G : Nat → Option Addr} {ρ : List Addr} {H : Hp} {h h2 : MH} (r : Rel K G ρ h2 H) (s : Sub h h2) : Rel K G (ρ.take h.n) h H := by
  have hl : (ρ.take h.n).length = h.n := by rw [List.length_take, r.len]; have := s.le; omega
  have lt : ∀ i a, (ρ.take h.n)[i]? = some a → i < h.n ∧ ρ[i]? = some a := fun i a e => by
    have hi : i < h.n := by rw [← hl]; exact (List.getElem?_eq_some_iff.mp e).1
    rw [List.getElem?_take_of_lt hi] at e
    exact ⟨hi, e⟩
  refine ⟨hl, fun i o e => ?_, fun i a e => s.full i (lt i a e).1, fun i j a o u g1 g2 k1 k2 e1 e2 => ?_⟩
  · obtain ⟨hi, e2, bl⟩ := s.ob i o e
    obtain ⟨a, q, ro⟩ := r.ob i o e2
    exact ⟨a, at_take q hi, ro.take bl⟩
  · exact r.inj i j a o u (s.ob i o g1).2.1 (s.ob j u g2).2.1 k1 k2 (lt i a e1).2 (lt j a e2).2
theorem Fut.take {K : PySem.W.Frag} {ρ ρ' : List Addr} {H H' : Hp} {n : Nat} (f : Fut K ρ H ρ' H') (hn : ρ.length ≤ n) : Fut K ρ H (ρ'.take n) H' := by
  obtain ⟨t, rfl, ht⟩ := f.pre
  refine ⟨⟨t.take (n - ρ.length), by rw [List.take_append, List.take_of_length_le hn], fun p hp => ht p (List.mem_of_mem_take hp)⟩, f.tup, f.fr, f.keep, f.xd, f.frz⟩
/-- f' may stand for f: where it says something, f says it, and holds what it holds -/
def Ref (f' f : Fn) : Prop := ∀ ds h, match f' ds h with
  | .ok v h' => (∀ (i : Nat) (o : O), h.get i = some o → i < h.n ∧ o.lo h.n = true) → (∀ i, i < h.n → ∃ o, h.get i = some o) → D.los h.n ds = true → ∃ h2, f ds h = .ok v h2 ∧ h.n ≤ h'.n ∧ Sub h' h2 ∧ v.lo h'.n = true
  | .exc C fs h' => (∀ (i : Nat) (o : O), h.get i = some o → i < h.n ∧ o.lo h.n = true) → (∀ i, i < h.n → ∃ o, h.get i = some o) → D.los h.n ds = true → ∃ h2, f ds h = .exc C fs h2 ∧ h.n ≤ h'.n ∧ Sub h' h2 ∧ loF h'.n fs = true
  | .bad => True
section
variable {P : Program} {w : World} {K : PySem.W.Frag} {mg : Str → Option Value} {base : Heap} {G : Nat → Option Addr} {k n : Nat} {f : Addr} {fd : FuncData} {ps : List Str}
theorem FnG.imp {sp sp' : Sp} (F : FnG P w K mg base k f fd ps sp) (i : ∀ vs H Q E, sp' vs H Q E → sp vs H Q E) : FnG P w K mg base k f fd ps sp' :=
  ⟨fun vs H Q E q => F.len vs H Q E (i _ _ _ _ q), fun A outer s H args us vs Q E hr hg e0 hb r q => F.run A outer s H args us vs Q E hr hg e0 hb r (i _ _ _ _ q)⟩
theorem FnG.ref {fm fm' : Fn} (F : FnG P w K mg base k f fd ps (spM K G n fm)) (hr : Ref fm' fm) : FnG P w K mg base k f fd ps (spM K G n fm') := by
  refine F.imp fun vs H Q E q => ?_
  obtain ⟨ρ, h, ds, r, rd, hl, w⟩ := q
  refine ⟨ρ, h, ds, r, rd, hl, ?_⟩
  have wf1 : ∀ (i : Nat) (o : O), h.get i = some o → i < h.n ∧ o.lo h.n = true := fun i o e => by
    obtain ⟨a, q, ro⟩ := r.ob i o e
    exact ⟨r.lt e, ro.lo r.len⟩
  have wf2 : ∀ i, i < h.n → ∃ o, h.get i = some o := fun i hi => r.full i (ρ[i]'(by rw [r.len]; exact hi)) (by simp)
  have wf3 := rd.los r.len
  have hq := hr ds h
  cases em : fm' ds h with
  | bad => rw [em] at w; exact w.elim
  | ok v h' =>
    rw [em] at w hq
    obtain ⟨h2, e2, le, sb, bl⟩ := hq wf1 wf2 wf3
    rw [e2]
    exact fun ρ' H' v' f' r' q' => w _ H' v' (f'.take (by rw [r.len]; exact le)) (r'.sub sb) (q'.take bl)
  | exc C fs h' =>
    rw [em] at w hq
    obtain ⟨h2, e2, le, sb, bl⟩ := hq wf1 wf2 wf3
    rw [e2]
    exact fun ρ' H' c d eg f' r' hx => w _ H' c d eg (f'.take (by rw [r.len]; exact le)) (r'.sub sb) (hx.imp id fun ⟨dd, vs, e1, e2, hf⟩ => ⟨dd, vs, e1, e2, hf.take bl⟩)

/-! ### arguments and a result that name no object: run on an empty memory -/

mutual
def D.shift (k : Nat) : D → D
  | .ref i => .ref (k + i)
  | .tup xs => .tup (D.shifts k xs)
  | d => d
def D.shifts (k : Nat) : List D → List D
  | [] => []
  | x :: xs => x.shift k :: D.shifts k xs
end
def shiftF {κ : Type} (k : Nat) (fs : List (κ × D)) : List (κ × D) := fs.map fun p => (p.1, p.2.shift k)
def O.shift (k : Nat) : O → O
  | .lst xs => .lst (D.shifts k xs)
  | .ro xs => .ro (D.shifts k xs)
  | .kl xs => .kl (D.shifts k xs)
  | .ins C fs => .ins C (shiftF k fs)
  | .dct ks => .dct (shiftF k ks)
  | .rct ks => .rct (shiftF k ks)
  | .dt ks => .dt (shiftF k ks)
  | .rdt ks => .rdt (shiftF k ks)
def MH.objs (h : MH) : Nat → List O
  | 0 => []
  | n + 1 => h.objs n ++ [(h.get n).getD (.lst [])]
def MH.more (h : MH) (k : Nat) (os : List O) : MH := os.foldl (fun h o => h.add (o.shift k)) h
def loc (f : Fn) : Fn := fun ds h => bif D.los 0 ds then match f ds MH.nil with
  | .ok v h2 => bif v.lo 0 then .ok v h else .ok (v.shift h.n) (h.more h.n (h2.objs h2.n))
  | .exc C fs h2 => bif loF 0 fs then .exc C fs h else .bad
  | .bad => .bad else .bad
theorem Rel.empty {H : Hp} : Rel K G [] MH.nil H := ⟨rfl, fun i o e => (by rw [MH.get_nil] at e; cases e), fun i a e => (by simp at e), fun i j a o u e => (by rw [MH.get_nil] at e; cases e)⟩
mutual
theorem RD.free {ρ ρ' : List Addr} {H H' : Hp} (t : ∀ a xs, SqT K H a xs → SqT K H' a xs) : ∀ {d : D} {v : V}, RD K G ρ H d v → d.lo 0 = true → RD K G ρ' H' d v
  | _, _, .non, _ => .non
  | _, _, .bl b, _ => .bl b
  | _, _, .int i, _ => .int i
  | _, _, .str x, _ => .str x
  | _, _, .tup a b, q => .tup (t _ _ a) (RDs.free t b (by simpa [D.lo] using q))
  | _, _, .ref e, q => by simp [D.lo] at q
  | _, _, .ty n, _ => .ty n
  | _, _, .rep n, _ => .rep n
  | _, _, .stat e, _ => .stat e
theorem RDs.free {ρ ρ' : List Addr} {H H' : Hp} (t : ∀ a xs, SqT K H a xs → SqT K H' a xs) : ∀ {d : List D} {v : List V}, RDs K G ρ H d v → D.los 0 d = true → RDs K G ρ' H' d v
  | _, _, .nil, _ => .nil
  | _, _, .cons a b, q => by
    rw [D.los, Bool.and_eq_true] at q
    exact .cons (RD.free t a q.1) (RDs.free t b q.2)
end
theorem RFs.free {κ : Type} {ρ ρ' : List Addr} {H H' : Hp} (t : ∀ a xs, SqT K H a xs → SqT K H' a xs) : ∀ {d : List (κ × D)} {v : List (κ × V)}, RFs K G ρ H d v → loF 0 d = true → RFs K G ρ' H' d v
  | _, _, .nil, _ => .nil
  | _, _, .cons a b, q => by
    rw [loF, List.all_cons, Bool.and_eq_true] at q
    exact .cons (a.free t q.1) (RFs.free t b q.2)
mutual

theorem RD.shift {ρ ρ' : List Addr} {H : Hp} : ∀ {d : D} {v : V}, RD K G ρ' H d v → RD K G (ρ ++ ρ') H (d.shift ρ.length) v
  | _, _, .non => .non
  | _, _, .bl b => .bl b
  | _, _, .int i => .int i
  | _, _, .str x => .str x
  | _, _, .tup a b => .tup a (RDs.shift b)
  | _, _, .ref e => .ref (by rw [List.getElem?_append_right (Nat.le_add_right _ _), Nat.add_sub_cancel_left]; exact e)
  | _, _, .ty n => .ty n
  | _, _, .rep n => .rep n
  | _, _, .stat e => .stat e
theorem RDs.shift {ρ ρ' : List Addr} {H : Hp} : ∀ {d : List D} {v : List V}, RDs K G ρ' H d v → RDs K G (ρ ++ ρ') H (D.shifts ρ.length d) v
  | _, _, .nil => .nil
  | _, _, .cons a b => .cons (RD.shift a) (RDs.shift b)
end
theorem RFs.shift {κ : Type} {ρ ρ' : List Addr} {H : Hp} : ∀ {d : List (κ × D)} {v : List (κ × V)}, RFs K G ρ' H d v → RFs K G (ρ ++ ρ') H (shiftF ρ.length d) v
  | _, _, .nil => .nil
  | _, _, .cons a b => .cons a.shift (RFs.shift b)
mutual
theorem nk_shift (n : Nat) : ∀ {d : D} {k : NestedKey}, nk d = some k → d.shift n = d
  | .non, _, e => rfl
  | .int i, _, e => rfl
  | .tup xs, _, e => by
    rw [nk, Option.map_eq_some_iff] at e
    obtain ⟨ks, e1, rfl⟩ := e
    rw [D.shift, nks_shift n e1]
  | .bl _, _, e => nomatch e
  | .str _, _, e => nomatch e
  | .ref _, _, e => nomatch e
  | .ty _, _, e => nomatch e
  | .stat _, _, e => nomatch e
  | .rep _, _, e => nomatch e
theorem nks_shift (n : Nat) : ∀ {xs : List D} {ks : List NestedKey}, nks xs = some ks → D.shifts n xs = xs
  | [], _, e => rfl
  | x :: xs, _, e => by
    rw [nks] at e
    cases e1 : nk x with
    | none => rw [e1] at e; cases e
    | some k =>
      rw [e1] at e
      simp only [Option.map_eq_some_iff] at e
      obtain ⟨ks, e2, rfl⟩ := e
      rw [D.shifts, nk_shift n e1, nks_shift n e2]
end
theorem RKs.shift {ρ ρ' : List Addr} {H : Hp} : ∀ {d : List (D × D)} {v : List (NestedKey × Addr × V)}, RKs K G ρ' H d v → RKs K G (ρ ++ ρ') H (shiftF ρ.length d) v
  | _, _, .nil => .nil
  | _, _, .cons e a b c => .cons e (by have := a.shift (ρ := ρ); rwa [nk_shift _ e] at this) b.shift (RKs.shift c)
theorem shiftF_look {k : Nat} {f : Str} {ds : List D} : ∀ {fs : List (Str × D)}, (shiftF k fs).lookup f = some (.tup ds) → ∃ es, fs.lookup f = some (.tup es)
  | [], e => by cases e
  | (g, d) :: fs, e => by
    have e' : (if f = g then some (d.shift k) else (shiftF k fs).lookup f) = some (.tup ds) := by
      rw [← e]
      show _ = List.lookup f ((g, d.shift k) :: shiftF k fs)
      rw [List.lookup_cons]
      by_cases h : f = g
      · rw [if_pos h, h, beq_self_eq_true]
      · rw [if_neg h, beq_false_of_ne h]
    rw [List.lookup_cons]
    by_cases h : f = g
    · rw [if_pos h] at e'
      rw [h, beq_self_eq_true]
      cases d with
      | tup es => exact ⟨es, rfl⟩
      | _ => injection e' with e'; simp [D.shift] at e'
    · rw [if_neg h] at e'
      rw [beq_false_of_ne h]
      exact shiftF_look e'
theorem NdF.shift {H : Hp} {k : Nat} {fs : List (Str × D)} {vs : List (Str × V)} (h : NdF K H fs vs) : NdF K H (shiftF k fs) vs := fun ds v e0 e => let ⟨es, q⟩ := shiftF_look e0; h es v q e
theorem RO.shift {ρ ρ' : List Addr} {H : Hp} {a : Addr} {o : O} (r : RO K G ρ' H a o) : RO K G (ρ ++ ρ') H a (o.shift ρ.length) := by
  cases o with
  | lst ds => obtain ⟨xs, e, z⟩ := r; exact ⟨xs, e, z.shift⟩
  | ro ds => obtain ⟨o, xs, e, z⟩ := r; exact ⟨o, xs, e, z.shift⟩
  | kl ds => obtain ⟨xs, e, z⟩ := r; exact ⟨xs, e, z.shift⟩
  | ins C fs => obtain ⟨c, dx, vs, e0, e, z, nd⟩ := r; exact ⟨c, dx, vs, e0, e, z.shift, nd.shift⟩
  | dct ks => obtain ⟨vs, e, z⟩ := r; exact ⟨vs, e, z.shift⟩
  | rct ks => obtain ⟨o, vs, e, z⟩ := r; exact ⟨o, vs, e, z.shift⟩
  | dt ks => obtain ⟨vs, e, y, z⟩ := r; exact ⟨vs, e, y, z.shift⟩
  | rdt ks => obtain ⟨o, vs, e, y, z⟩ := r; exact ⟨o, vs, e, y, z.shift⟩
theorem shift_isK (k : Nat) (o : O) : (o.shift k).isK = o.isK := by cases o <;> rfl
theorem objs_len (h : MH) : ∀ n, (h.objs n).length = n
  | 0 => rfl
  | n + 1 => by rw [MH.objs, List.length_append, objs_len h n]; rfl
theorem objs_get (h : MH) : ∀ (n i : Nat), i < n → (h.objs n)[i]? = some ((h.get i).getD (.lst []))
  | n + 1, i, hi => by
    rw [MH.objs]
    by_cases e : i = n
    · subst e
      rw [List.getElem?_append_right (by rw [objs_len]; exact Nat.le_refl _), objs_len, Nat.sub_self]
      rfl
    · rw [List.getElem?_append_left (by rw [objs_len]; omega)]
      exact objs_get h n i (by omega)
theorem more_n (k : Nat) : ∀ (os : List O) (h : MH), (h.more k os).n = h.n + os.length
  | [], h => rfl
  | o :: os, h => by
    show ((h.add (o.shift k)).more k os).n = _
    rw [more_n k os]
    simp
    omega
theorem more_get (k : Nat) : ∀ (os : List O) (h : MH) (j : Nat), (h.more k os).get j = if j < h.n then h.get j else if j - h.n < os.length then (os[j - h.n]?).map (O.shift k) else h.get j
  | [], h, j => by simp [MH.more]
  | o :: os, h, j => by
    show ((h.add (o.shift k)).more k os).get j = _
    rw [more_get k os, MH.n_add]
    by_cases h1 : j < h.n
    · rw [if_pos h1, if_pos (by omega), MH.get_add_ne _ _ (by omega)]
    · rw [if_neg h1]
      by_cases h2 : j = h.n
      · subst h2
        rw [if_pos (by omega), Nat.sub_self, if_pos (by simp)]
        simp
      · rw [if_neg (by omega)]
        by_cases h3 : j - h.n < (o :: os).length
        · rw [if_pos h3, if_pos (by simp at h3; omega)]
          rw [show j - h.n = (j - (h.n + 1)) + 1 by omega, List.getElem?_cons_succ]
        · rw [if_neg h3, if_neg (by simp at h3; omega), MH.get_add_ne _ _ h2]
/-- two memories of one heap, what the second one names being new -/
theorem Rel.both {ρ ρ' : List Addr} {H H' : Hp} {h h2 : MH} (r : Rel K G ρ h H) (fr : ∀ a o, H a = some o → H' a = some o) (tp : ∀ a xs, SqT K H a xs → SqT K H' a xs) (r2 : Rel K G ρ' h2 H') (new : ∀ p ∈ ρ', H p = none) :
    Fut K ρ H (ρ ++ ρ') H' ∧ Rel K G (ρ ++ ρ') (h.more h.n (h2.objs h2.n)) H' := by
  have f0 : Fut K ρ H ρ H' := ⟨⟨[], by simp, by simp⟩, tp, fun a o q _ => fr a o q, (fun a q => by
    cases e : H a with
    | none => rfl
    | some o => rw [fr a o e] at q; cases q), (fun a fs q => fr a _ q), fun a _ _ q => fr a _ q⟩
  have f : Fut K ρ H (ρ ++ ρ') H' := ⟨⟨ρ', rfl, new⟩, tp, f0.fr, f0.keep, f0.xd, f0.frz⟩
  have get : ∀ i o, (h.more h.n (h2.objs h2.n)).get i = some o → (i < h.n ∧ h.get i = some o) ∨ (h.n ≤ i ∧ ∃ u, h2.get (i - h.n) = some u ∧ o = u.shift h.n) := fun i o e => by
    rw [more_get, objs_len] at e
    by_cases h1 : i < h.n
    · rw [if_pos h1] at e; exact .inl ⟨h1, e⟩
    · rw [if_neg h1] at e
      by_cases h3 : i - h.n < h2.n
      · rw [if_pos h3, objs_get _ _ _ h3] at e
        obtain ⟨u, hu⟩ := r2.full (i - h.n) (ρ'[i - h.n]'(by rw [r2.len]; exact h3)) (by simp)
        rw [hu] at e
        cases e
        exact .inr ⟨by omega, u, hu, rfl⟩
      · rw [if_neg h3] at e
        exact absurd (r.lt e) h1
  have nk : ∀ {i a o}, h.get i = some o → o.isK = false → ρ[i]? = some a → a ∉ ρ' := fun {i a o} g k e z => r.ne g k e (new a z) rfl
  refine ⟨f, by simp [r.len, more_n, objs_len, r2.len], fun i o e => ?_, fun i a e => ?_, fun i j a o u g1 g2 k1 k2 e1 e2 => ?_⟩
  · rcases get i o e with ⟨hi, g⟩ | ⟨hi, u, g, rfl⟩
    · obtain ⟨a, q, ro⟩ := r.ob i o g
      obtain ⟨w, hw⟩ : ∃ w, H a = some w ∨ o.isK = true := by
        cases ek : o.isK with
        | true => exact ⟨.lst [], .inr rfl⟩
        | false => obtain ⟨w, hw⟩ := ro.some ek; exact ⟨w, .inl hw⟩
      refine ⟨a, f.at q, ro.fut f fun k => ?_⟩
      rcases hw with hw | hw
      · rw [hw]; exact fr a w hw
      · rw [k] at hw; cases hw
    · obtain ⟨a, q, ro⟩ := r2.ob _ u g
      have s := RO.shift (ρ := ρ) ro
      rw [r.len] at s
      exact ⟨a, by rw [List.getElem?_append_right (by rw [r.len]; exact hi), r.len]; exact q, s⟩
  · rw [more_get, objs_len]
    by_cases h1 : i < h.n
    · rw [if_pos h1]
      exact r.full i (ρ[i]'(by rw [r.len]; exact h1)) (by simp)
    · rw [if_neg h1]
      have hl := (List.getElem?_eq_some_iff.mp e).1
      rw [List.length_append, r.len, r2.len] at hl
      rw [if_pos (by omega), objs_get _ _ _ (by omega)]
      exact ⟨_, rfl⟩
  · have side : ∀ {i a}, (ρ ++ ρ')[i]? = some a → h.n ≤ i → ρ'[i - h.n]? = some a := fun {i a} e hi => by
      rw [List.getElem?_append_right (by rw [r.len]; exact hi), r.len] at e
      exact e
    have side' : ∀ {i a}, (ρ ++ ρ')[i]? = some a → i < h.n → ρ[i]? = some a := fun {i a} e hi => by
      rw [List.getElem?_append_left (by rw [r.len]; exact hi)] at e
      exact e
    rcases get i o g1 with ⟨hi, g⟩ | ⟨hi, w, g, rfl⟩
    · rcases get j u g2 with ⟨hj, g'⟩ | ⟨hj, w', g', rfl⟩
      · exact r.inj i j a o u g g' k1 k2 (side' e1 hi) (side' e2 hj)
      · exact absurd (List.mem_of_getElem? (side e2 hj)) (nk g k1 (side' e1 hi))
    · rcases get j u g2 with ⟨hj, g'⟩ | ⟨hj, w', g', rfl⟩
      · exact absurd (List.mem_of_getElem? (side e1 hi)) (nk g' k2 (side' e2 hj))
      · rw [shift_isK] at k1 k2
        have := r2.inj _ _ a _ _ g g' k1 k2 (side e1 hi) (side e2 hj)
        omega
theorem FnG.loc {fm : Fn} (F : FnG P w K mg base k f fd ps (spM K G n fm)) : FnG P w K mg base k f fd ps (spM K G n (loc fm)) := by
  refine F.imp fun vs H Q E q => ?_
  obtain ⟨ρ, h, ds, r, rd, hl, w⟩ := q
  unfold MM.loc at w
  cases el : D.los 0 ds with
  | false => rw [el] at w; exact w.elim
  | true =>
    rw [el] at w
    simp only [cond_true] at w
    refine ⟨[], MH.nil, ds, Rel.empty, rd.free (fun _ _ q => q) el, hl, ?_⟩
    cases em : fm ds MH.nil with
    | bad => rw [em] at w; exact w.elim
    | ok v h2 =>
      rw [em] at w
      intro ρ' H' v' f' r' q'
      obtain ⟨t, rfl, ht⟩ := f'.pre
      have fr : ∀ a o, H a = some o → H' a = some o := fun a o q => f'.fr a o q (by simp)
      obtain ⟨fb, rb⟩ := r.both fr f'.tup r' fun p hp => ht p (by simpa using hp)
      simp only at w
      cases ev : v.lo 0 with
      | false =>
        rw [ev] at w
        refine w _ H' v' fb rb ?_
        have s := RD.shift (ρ := ρ) q'
        rw [r.len] at s
        exact s
      | true =>
        rw [ev] at w
        have f0 : Fut K ρ H ρ H' := ⟨⟨[], by simp, by simp⟩, f'.tup, fun a o q _ => fr a o q, fb.keep, (fun a fs q => fr a _ q), fun a _ _ q => fr a _ q⟩
        refine w ρ H' v' f0 ⟨r.len, fun i o e => ?_, r.full, r.inj⟩ (q'.free (fun _ _ q => q) ev)
        obtain ⟨a, e1, ro⟩ := r.ob i o e
        refine ⟨a, e1, ro.fut f0 fun k => ?_⟩
        obtain ⟨u, hu⟩ := ro.some k
        rw [hu]; exact fr a u hu
    | exc C fs h2 =>
      rw [em] at w
      simp only at w
      cases ev : loF 0 fs with
      | false => rw [ev] at w; exact w.elim
      | true =>
        rw [ev] at w
        intro ρ' H' c d eg f' r' hx
        have fr : ∀ a o, H a = some o → H' a = some o := fun a o q => f'.fr a o q (by simp)
        have f0 : Fut K ρ H ρ H' := ⟨⟨[], by simp, by simp⟩, f'.tup, fun a o q _ => fr a o q, f'.keep, (fun a fs q => fr a _ q), fun a _ _ q => fr a _ q⟩
        refine w ρ H' c d eg f0 ⟨r.len, fun i o e => ?_, r.full, r.inj⟩ (hx.imp id fun ⟨dd, vs, e1, e2, hf⟩ => ⟨dd, vs, e1, e2, hf.free (fun _ _ q => q) ev⟩)
        obtain ⟨a, e1, ro⟩ := r.ob i o e
        refine ⟨a, e1, ro.fut f0 fun k => ?_⟩
        obtain ⟨u, hu⟩ := ro.some k
        rw [hu]; exact fr a u hu
end
/-! ### loops -/
/-- a comprehension's loop, by what holds between two turns -/
theorem lcL_spec {it : MI} {t : Tg} {tt : Mt} {te : Mx} {env : ME} {L : Nat} (I : Nat → List D → MH → Prop) {acc0 : List D} {h0 : MH} (s0 : I 0 acc0 h0)
    (step : ∀ k acc h, k < it.n → I k acc h → ∃ d e1, it.at h k = some d ∧ asg h t d env = some e1 ∧ ((∃ h2, tt e1 h = .ok false h2 ∧ I (k + 1) acc h2) ∨
      ∃ h2 y h3, tt e1 h = .ok true h2 ∧ te e1 h2 = .ok y h3 ∧ h3.get L = some (.lst acc) ∧ acc.length < sizeLine ∧ I (k + 1) (acc ++ [y]) (h3.set L (.lst (acc ++ [y])))))
    (fin : ∀ acc h, I it.n acc h → it.fin h = true) : ∃ acc h, lcL it t tt te env L it.n 0 h0 = some h ∧ I it.n acc h := by
  have go : ∀ (r k : Nat) (acc : List D) (h : MH), k + r = it.n → I k acc h → ∃ acc' h', lcL it t tt te env L r k h = some h' ∧ I it.n acc' h' := by
    intro r
    induction r with
    | zero =>
      intro k acc h e q
      have : k = it.n := by omega
      subst this
      exact ⟨acc, h, by rw [lcL, if_pos (fin acc h q)], q⟩
    | succ r ih =>
      intro k acc h e q
      obtain ⟨d, e1, h1, h2, z⟩ := step k acc h (by omega) q
      rw [lcL, h1]
      simp only [h2]
      rcases z with ⟨h2', e2, q2⟩ | ⟨h2', y, h3, e2, e3, e4, e5, q2⟩
      · rw [e2]
        exact ih (k + 1) acc h2' (by omega) q2
      · rw [e2]
        simp only [e3, pushD, e4, if_pos e5]
        exact ih (k + 1) _ _ (by omega) q2
  exact go it.n 0 acc0 h0 (by omega) s0
/-- a for, whose body always comes to its end -/
theorem forL_spec {it : MI} {t : Tg} {body : Ms} (I : Nat → ME → MH → Prop) {e0 : ME} {h0 : MH} (s0 : I 0 e0 h0)
    (step : ∀ k env h, k < it.n → I k env h → ∃ d e1, it.at h k = some d ∧ asg h t d env = some e1 ∧ ((∃ e2 h2, body e1 h = .nx e2 h2 ∧ I (k + 1) e2 h2) ∨ ∃ e2 h2, body e1 h = .ct e2 h2 ∧ I (k + 1) e2 h2))
    (fin : ∀ env h, I it.n env h → it.fin h = true) : ∃ e h, forL it t body it.n 0 e0 h0 = .nx e h ∧ I it.n e h := by
  have go : ∀ (r k : Nat) (env : ME) (h : MH), k + r = it.n → I k env h → ∃ e' h', forL it t body r k env h = .nx e' h' ∧ I it.n e' h' := by
    intro r
    induction r with
    | zero =>
      intro k env h e q
      have : k = it.n := by omega
      subst this
      exact ⟨env, h, by rw [forL, if_pos (fin env h q)], q⟩
    | succ r ih =>
      intro k env h e q
      obtain ⟨d, e1, h1, h2, z⟩ := step k env h (by omega) q
      rw [forL, h1]
      simp only [h2]
      rcases z with ⟨e2, h2', e2', q2⟩ | ⟨e2, h2', e2', q2⟩
      · rw [e2']
        exact ih (k + 1) e2 h2' (by omega) q2
      · rw [e2']
        exact ih (k + 1) e2 h2' (by omega) q2
  exact go it.n 0 e0 h0 (by omega) s0
end MM
namespace MM
open PySem PySem.Spec PyProof.Rows L2
/-- where the one says nothing, the other -/
def alt (f g : Fn) : Fn := fun ds h => match f ds h with
  | .bad => g ds h
  | .ok v h' => .ok v h'
  | .exc C fs h' => .exc C fs h'
theorem FnG.alt {P : Program} {w : World} {K : PySem.W.Frag} {mg : Str → Option Value} {base : Heap} {G : Nat → Option Addr} {k n : Nat} {f : Addr} {fd : FuncData} {ps : List Str} {fm fm' : Fn}
    (F : FnG P w K mg base k f fd ps (spM K G n fm)) (F' : FnG P w K mg base k f fd ps (spM K G n fm')) : FnG P w K mg base k f fd ps (spM K G n (alt fm fm')) := by
  have each : ∀ vs H Q E, spM K G n (MM.alt fm fm') vs H Q E → spM K G n fm vs H Q E ∨ spM K G n fm' vs H Q E := fun vs H Q E q => by
    obtain ⟨ρ, h, ds, r, rd, hl, w⟩ := q
    unfold MM.alt at w
    cases e : fm ds h with
    | bad => rw [e] at w; exact .inr ⟨ρ, h, ds, r, rd, hl, w⟩
    | ok v h' => rw [e] at w; exact .inl ⟨ρ, h, ds, r, rd, hl, by rw [e]; exact w⟩
    | exc C fs h' => rw [e] at w; exact .inl ⟨ρ, h, ds, r, rd, hl, by rw [e]; exact w⟩
  refine ⟨fun vs H Q E q => ?_, fun A outer s H args us vs Q E hr hg e0 hb r q => ?_⟩
  · rcases each vs H Q E q with q | q
    · exact F.len _ _ _ _ q
    · exact F'.len _ _ _ _ q
  · rcases each vs H Q E q with q | q
    · exact F.run A outer s H args us vs Q E hr hg e0 hb r q
    · exact F'.run A outer s H args us vs Q E hr hg e0 hb r q
end MM
namespace MM
open PySem PySem.Spec PyProof.Rows L2
/-- a def of one, of two places that says k of every list in its last place -/
def lstF1 (k : Bool) : Fn := fun ds h => match ds with
  | [.ref i] => match h.get i with
    | some (.lst _) => .ok (.bl k) h
    | _ => .bad
  | _ => .bad
def lstF2 (k : Bool) : Fn := fun ds h => match ds with
  | [_, .ref i] => match h.get i with
    | some (.lst _) => .ok (.bl k) h
    | _ => .bad
  | _ => .bad
theorem Sub.self {h : MH} (w1 : ∀ (i : Nat) (o : O), h.get i = some o → i < h.n ∧ o.lo h.n = true) (w2 : ∀ i, i < h.n → ∃ o, h.get i = some o) : Sub h h := ⟨Nat.le_refl _, fun i o e => ⟨(w1 i o e).1, e, (w1 i o e).2⟩, w2⟩
theorem lstF1_ok {k : Bool} {ds : List D} {h h' : MH} {v : D} (e : lstF1 k ds h = .ok v h') : v = .bl k ∧ h' = h ∧ ∃ i xs, ds = [.ref i] ∧ h.get i = some (.lst xs) := by
  unfold lstF1 at e
  split at e
  · split at e
    · rename_i g
      cases e
      exact ⟨rfl, rfl, _, _, rfl, g⟩
    · cases e
  · cases e
theorem lstF2_ok {k : Bool} {ds : List D} {h h' : MH} {v : D} (e : lstF2 k ds h = .ok v h') : v = .bl k ∧ h' = h ∧ ∃ a i xs, ds = [a, .ref i] ∧ h.get i = some (.lst xs) := by
  unfold lstF2 at e
  split at e
  · split at e
    · rename_i g
      cases e
      exact ⟨rfl, rfl, _, _, _, rfl, g⟩
    · cases e
  · cases e
theorem lstF1_exc {k : Bool} {ds : List D} {h h' : MH} {C : Nat} {fs : List (Str × D)} : lstF1 k ds h ≠ .exc C fs h' := by
  intro e
  unfold lstF1 at e
  split at e
  · split at e <;> cases e
  · cases e
theorem lstF2_exc {k : Bool} {ds : List D} {h h' : MH} {C : Nat} {fs : List (Str × D)} : lstF2 k ds h ≠ .exc C fs h' := by
  intro e
  unfold lstF2 at e
  split at e
  · split at e <;> cases e
  · cases e
theorem refLst1 {k : Bool} {f : Fn} (hg : ∀ i h xs, h.get i = some (.lst xs) → f [.ref i] h = .ok (.bl k) h) : Ref (lstF1 k) f := by
  intro ds h
  cases e : lstF1 k ds h with
  | bad => trivial
  | exc C fs h' => exact absurd e lstF1_exc
  | ok v h' =>
    intro w1 w2 w3
    obtain ⟨rfl, rfl, i, xs, rfl, g⟩ := lstF1_ok e
    exact ⟨h', hg _ _ _ g, Nat.le_refl _, .self w1 w2, rfl⟩
theorem refLst2 {k : Bool} {f : Fn} (hf : ∀ a i h xs, h.get i = some (.lst xs) → f [a, .ref i] h = .ok (.bl k) h) : Ref (lstF2 k) f := by
  intro ds h
  cases e : lstF2 k ds h with
  | bad => trivial
  | exc C fs h' => exact absurd e lstF2_exc
  | ok v h' =>
    intro w1 w2 w3
    obtain ⟨rfl, rfl, a, i, xs, rfl, g⟩ := lstF2_ok e
    exact ⟨h', hf _ _ _ _ g, Nat.le_refl _, .self w1 w2, rfl⟩
end MM

set_option Elab.async false
set_option linter.all false
set_option maxRecDepth 100000
set_option maxHeartbeats 4000000
set_option autoImplicit false
/-! dicts of ints and texts; list.pop -/
namespace MM
open PySem PySem.Spec PyProof.Rows L2
/-! ### keys, pairs -/
def dkey : D → Option Key
  | .int i => some (.inl i)
  | .str x => some (.inr x)
  | _ => none
def valD (kvs : List (Key × D)) (k : Key) : Option D := (kvs.find? fun kv => decide (kv.1 = k)).map (·.2)
def putD (kvs : List (Key × D)) (k : Key) (v : D) : List (Key × D) :=
  if (kvs.any fun kv => decide (kv.1 = k)) = true then kvs.map (fun kv => if kv.1 = k then (kv.1, v) else kv) else kvs ++ [(k, v)]
def mergeD (kvs more : List (Key × D)) : List (Key × D) := more.foldl (fun acc kv => putD acc kv.1 kv.2) kvs
section
variable {K : PySem.W.Frag} {G : Nat → Option Addr} {ρ : List Addr} {H : Hp}
theorem dkey_v {d : D} {v : V} {k : Key} (r : RD K G ρ H d v) (e : dkey d = some k) : v = kV k := by
  cases r <;> first | (cases e; rfl) | cases e
theorem RFs.val {ds : List (Key × D)} {vs : List (Key × V)} (r : RFs K G ρ H ds vs) (k : Key) : (∀ d, valD ds k = some d → ∃ v, valV vs k = some v ∧ RD K G ρ H d v) ∧ (valD ds k = none → valV vs k = none) := by
  induction r with
  | nil => exact ⟨fun d e => (by cases e), fun _ => rfl⟩
  | @cons f d v ds vs a b ih =>
    by_cases e : f = k
    · have e1 : valD ((f, d) :: ds) k = some d := by simp [valD, e]
      have e2 : valV ((f, v) :: vs) k = some v := valV_pos e
      rw [e1, e2]
      exact ⟨fun x q => (by cases q; exact ⟨v, rfl, a⟩), fun q => (by cases q)⟩
    · have e1 : valD ((f, d) :: ds) k = valD ds k := by simp [valD, e]
      have e2 : valV ((f, v) :: vs) k = valV vs k := valV_neg e
      rw [e1, e2]
      exact ih
theorem RFs.any {κ : Type} {ds : List (κ × D)} {vs : List (κ × V)} (r : RFs K G ρ H ds vs) (t : κ → Bool) : (ds.any fun kv => t kv.1) = (vs.any fun kv => t kv.1) := by
  induction r with
  | nil => rfl
  | cons a b ih => rw [List.any_cons, List.any_cons, ih]
theorem RFs.len {κ : Type} {ds : List (κ × D)} {vs : List (κ × V)} (r : RFs K G ρ H ds vs) : ds.length = vs.length := by
  induction r with
  | nil => rfl
  | cons a b ih => simp [ih]
theorem RFs.over {ds : List (Key × D)} {vs : List (Key × V)} (r : RFs K G ρ H ds vs) (k : Key) {d : D} {v : V} (q : RD K G ρ H d v) :
    RFs K G ρ H (ds.map fun kv => if kv.1 = k then (kv.1, d) else kv) (vs.map fun kv => if kv.1 = k then (kv.1, v) else kv) := by
  induction r with
  | nil => exact .nil
  | @cons f d' v' ds vs a b ih =>
    rw [List.map_cons, List.map_cons]
    by_cases e : f = k
    · simp only [e, if_true]; exact .cons q ih
    · simp only [e, if_false]; exact .cons a ih
theorem RFs.snoc {ds : List (Key × D)} {vs : List (Key × V)} (r : RFs K G ρ H ds vs) (k : Key) {d : D} {v : V} (q : RD K G ρ H d v) : RFs K G ρ H (ds ++ [(k, d)]) (vs ++ [(k, v)]) := by
  induction r with
  | nil => exact .cons q .nil
  | cons a b ih => exact .cons a ih
theorem RFs.put {ds : List (Key × D)} {vs : List (Key × V)} (r : RFs K G ρ H ds vs) (k : Key) {d : D} {v : V} (q : RD K G ρ H d v) : RFs K G ρ H (putD ds k d) (putK vs k v) := by
  unfold putD putK
  rw [r.any fun x => decide (x = k)]
  split
  · exact r.over k q
  · exact r.snoc k q
theorem RFs.merge {ds ms : List (Key × D)} {vs ns : List (Key × V)} (r : RFs K G ρ H ds vs) (m : RFs K G ρ H ms ns) : RFs K G ρ H (mergeD ds ms) (mergeK vs ns) := by
  induction m generalizing ds vs with
  | nil => exact r
  | cons a b ih => exact ih (r.put _ a)
end
/-! ### a display -/
def ePs : List (Mx × Mx) → ME → MH → Res (List (D × D))
  | [], _, h => .ok [] h
  | (a, b) :: r, env, h => (a env h).bind fun x h1 => (b env h1).bind fun y h2 => (ePs r env h2).bind fun ps h3 => .ok ((x, y) :: ps) h3
def keysD : List (D × D) → Option (List (Key × D))
  | [] => some []
  | (x, y) :: r => match dkey x, keysD r with
    | some k, some ks => some ((k, y) :: ks)
    | _, _ => none
def putDct (i : Nat) (qs : List (D × D)) (h : MH) : Option (D × MH) := match keysD qs with
  | some kvs => if kvs.length ≤ 15 then match h.get i with
    | some (.dct []) => some (.ref i, h.set i (.dct (mergeD [] kvs)))
    | _ => none else none
  | none => none
def eDct (ps : List (Mx × Mx)) : Mx := fun env h => (ePs ps env (h.add (.dct []))).bind fun qs h2 => ofOpt (putDct h.n qs h2)
inductive RPs (K : PySem.W.Frag) (G : Nat → Option Addr) (ρ : List Addr) (H : Hp) : List (D × D) → List (V × V) → Prop
  | nil : RPs K G ρ H [] []
  | cons {x y : D} {u v : V} {ds : List (D × D)} {vs : List (V × V)} : RD K G ρ H x u → RD K G ρ H y v → RPs K G ρ H ds vs → RPs K G ρ H ((x, y) :: ds) ((u, v) :: vs)
section
variable {X : Cx} {G : Nat → Option Addr} {K : PySem.W.Frag} {ρ : List Addr} {H : Hp} {W : WX} {e a b c : Expr} {es : List Expr} {pos : Pos}
theorem RPs.keys : ∀ {ds : List (D × D)} {vs : List (V × V)} {ks : List (Key × D)}, RPs K G ρ H ds vs → keysD ds = some ks → ∃ kvs : List (Key × V), vs = kvs.map (fun kv => (kV kv.1, kv.2)) ∧ RFs K G ρ H ks kvs
  | _, _, _, .nil, e => by cases e; exact ⟨[], rfl, .nil⟩
  | _, _, ks, .cons r s t, e => by
    unfold keysD at e
    split at e
    · rename_i k ks' e1 e2
      cases e
      obtain ⟨kvs, rfl, q⟩ := RPs.keys t e2
      exact ⟨(k, _) :: kvs, by rw [List.map_cons, dkey_v r e1], .cons s q⟩
    · cases e
theorem rd_pairs : ∀ (ps : List (Mx × Mx)) {σ : L2.St} {ρ : List Addr} {H : Hp} {h : MH} {env : ME} {Q : List (V × V) → Hp → Prop}, Rel X.K G ρ h H → REnv X.K G ρ H env σ → Wp X.K G (RPs X.K G) ρ H (ePs ps env h) Q (fun c d H' => W c d σ H') →
    tPairs (ps.map fun p => (RdE X.K G W p.1, RdE X.K G W p.2)) σ H Q
  | [], σ, ρ, H, h, env, Q, r, re, w => w.ret r .nil
  | (a, b) :: ps, σ, ρ, H, h, env, Q, r, re, w => by
    refine ⟨ρ, h, env, r, re, Wp.bind w fun x h1 ρ1 H1 vx f1 r1 q1 w1 => ?_⟩
    refine ⟨ρ1, h1, env, r1, re.fut f1, Wp.bind w1 fun y h2 ρ2 H2 vy f2 r2 q2 w2 => ?_⟩
    refine rd_pairs ps r2 ((re.fut f1).fut f2) (Wp.bind w2 fun qs h3 ρ3 H3 vs f3 r3 q3 w3 => ?_)
    exact w3.ret r3 (.cons ((q1.fut f2).fut f3) (q2.fut f3) q3)
theorem me_dct {ps : List (Mx × Mx)} {keys : List (Option Expr)} {values : List Expr} (h : PPs X pos keys values (ps.map fun p => (RdE X.K G W p.1, RdE X.K G W p.2))) (hall : keys.all (·.isSome) = true) (hl : keys.length = values.length) (h0 : keys ≠ [])
    (h15 : keys.length ≤ 15) : PE X (.Dict keys values pos) (RdE X.K G W (eDct ps)) := by
  refine PE.imp (pe_disp h hall hl h0 h15) fun σ H Q q => ?_
  obtain ⟨ρ, h, env, r, re, w⟩ := q
  intro p hp
  have f0 : Fut X.K ρ H (ρ ++ [p]) (upd H p (.dK [])) := Fut.upd hp
  have r0 : Rel X.K G (ρ ++ [p]) (h.add (.dct [])) (upd H p (.dK [])) := r.new hp rfl ⟨[], upd_same, .nil⟩
  refine rd_pairs ps r0 (re.fut f0) (Wp.bind (Wp.fut f0 w) fun qs h2 ρ2 H2 vs f2 r2 q2 w2 => ?_)
  obtain ⟨v, h', e, k⟩ := w2.opt
  unfold putDct at e
  split at e
  · rename_i kvs ek
    split at e
    · rename_i h15'
      split at e
      · rename_i g
        cases e
        obtain ⟨kvv, rfl, rf⟩ := q2.keys ek
        have at2 : ρ2[h.n]? = some p := f2.at (by rw [← r.len]; simp)
        obtain ⟨a2, e2, vs2, g2, z2⟩ := r2.ob _ _ g
        rw [at2] at e2; cases e2
        cases z2
        refine ⟨g2, kvv, rfl, by rw [← rf.len]; exact h15', ?_⟩
        have fu : Fut X.K ρ2 H2 ρ2 (upd H2 p (.dK (mergeK [] kvv))) := Fut.updS at2 (by rw [g2]; exact .dK _)
        have mr : RFs X.K G ρ2 H2 (mergeD [] kvs) (mergeK [] kvv) := RFs.merge .nil rf
        exact k ρ2 _ _ fu (r2.set g rfl rfl at2 (by rw [g2]; exact .dK _) ⟨_, upd_same, mr.fut fu⟩) (.ref at2)
      · cases e
    · cases e
  · cases e
/-! ### d[k], d.get(k, x) -/
def dgetD (a b : D) (h : MH) : Option (D × MH) := match a with
  | .ref i => match h.get i with
    | some (.dct kvs) => match dkey b with
      | some k => keep h (valD kvs k)
      | none => none
    | _ => none
  | _ => none
def ixD2 (a b : D) (h : MH) : Option (D × MH) := match ixD a b h with
  | some r => some r
  | none => dgetD a b h
theorem dget_v {h : MH} {x y d : D} {v : V} {u : V} {h' : MH} (R : Rel K G ρ h H) (rx : RD K G ρ H x v) (ry : RD K G ρ H y u) (e : dgetD x y h = some (d, h')) : h' = h ∧ ∃ a w, v = .ref a ∧ DGet H a u (some w) ∧ RD K G ρ H d w := by
  unfold dgetD at e
  split at e
  · split at e
    · rename_i i kvs g
      split at e
      · rename_i k ek
        obtain ⟨e1, rfl⟩ := keep_eq e
        obtain ⟨a, ea, vs, g2, z⟩ := R.ob _ _ g
        cases rx with
        | ref ha =>
          rw [ha] at ea; cases ea
          obtain ⟨w, e2, rw'⟩ := (z.val k).1 _ e1
          have := dkey_v ry ek
          subst this
          exact ⟨rfl, _, w, rfl, by rw [← e2]; exact .k g2, rw'⟩
      · cases e
    · cases e
  · cases e
theorem PE.or {t t' : TE} (p : PE X e t) (p' : PE X e t') : PE X e (fun σ H Q => t σ H Q ∨ t' σ H Q) := ⟨fun pins s σ H Q I q => q.elim (p.run pins s σ H Q I) (p'.run pins s σ H Q I)⟩
theorem me_ix2 {ma mb : Mx} (hu : X.A.units + 1 < cLine) (ha : PE X a (RdE X.K G W ma)) (hb : PE X b (RdE X.K G W mb)) (hs : PlainIx b := by exact fun _ _ => rfl) (hs2 : NoSl b := by exact fun _ _ => rfl) : PE X (.Subscript a b pos) (RdE X.K G W (eOp ixD2 ma mb)) := by
  refine PE.imp (PE.or (me_ix ha hb hs) (pe_dget hu ha hb hs2)) fun σ H Q q => ?_
  obtain ⟨ρ, h, env, r, re, w⟩ := q
  unfold eOp at w
  cases e1 : ma env h with
  | bad => rw [e1] at w; exact w.elim
  | exc C fs h1 => rw [e1] at w; exact .inl ⟨ρ, h, env, r, re, by unfold eOp; rw [e1]; exact w⟩
  | ok x h1 =>
    cases e2 : mb env h1 with
    | bad => rw [e1] at w; simp only [Res.bind, e2] at w; exact w.elim
    | exc C fs h2 => rw [e1] at w; simp only [Res.bind, e2] at w; exact .inl ⟨ρ, h, env, r, re, by unfold eOp; rw [e1]; simp only [Res.bind, e2]; exact w⟩
    | ok y h2 =>
      have w' := w
      rw [e1] at w'
      simp only [Res.bind, e2] at w'
      cases e3 : ixD x y h2 with
      | some p =>
        refine .inl ⟨ρ, h, env, r, re, ?_⟩
        unfold eOp
        rw [e1]
        simp only [Res.bind, e2, e3]
        unfold ixD2 at w'
        rw [e3] at w'
        exact w'
      | none =>
        refine .inr ⟨ρ, h, env, r, re, ?_⟩
        rw [e1]
        intro ρ1 H1 vx f1 r1 q1
        refine ⟨ρ1, h1, env, r1, re.fut f1, ?_⟩
        rw [e2]
        intro ρ2 H2 vy f2 r2 q2
        obtain ⟨d, h', e, k⟩ := (Wp.fut (f1.trans f2) w').opt
        unfold ixD2 at e
        rw [e3] at e
        obtain ⟨rfl, a, v, ea, g, rd⟩ := dget_v r2 (q1.fut f2) q2 e
        exact ⟨a, v, ea, g, k ρ2 H2 v .refl r2 rd⟩
def isDct (h : MH) (x : D) : Bool := match x with
  | .ref i => match h.get i with
    | some (.dct _) => true
    | _ => false
  | _ => false
def get2D (a b z : D) (h : MH) : Option (D × MH) := match a with
  | .ref i => match h.get i with
    | some (.dct kvs) => match dkey b with
      | some k => some ((valD kvs k).getD z, h)
      | none => none
    | _ => none
  | _ => none
def eGet2 (m mk mz : Mx) : Mx := fun env h => (m env h).bind fun x h1 => bif isDct h1 x then (mk env h1).bind fun y h2 => (mz env h2).bind fun z h3 => ofOpt (get2D x y z h3) else .bad
theorem me_get2 {o f : Expr} {apos cpos : Pos} {m mk mz : Mx} (hu : X.A.units + 1 < cLine) (ho : PE X o (RdE X.K G W m)) (he : PE X e (RdE X.K G W mk)) (hf : PE X f (RdE X.K G W mz)) (hm : M2 X o "get" apos e f cpos) :
    PE X (.Call (.Attribute o "get" apos) [e, f] [] cpos) (RdE X.K G W (eGet2 m mk mz)) := by
  refine PE.imp (pe_dget2 hu ho he hf hm) fun σ H Q q => ?_
  obtain ⟨ρ, h, env, r, re, w⟩ := q
  refine ⟨ρ, h, env, r, re, Wp.bind w fun x h1 ρ1 H1 vx f1 r1 q1 w1 => ?_⟩
  cases ei : isDct h1 x with
  | false => rw [ei] at w1; exact w1.elim
  | true =>
    rw [ei] at w1
    unfold isDct at ei
    split at ei
    · rename_i i
      split at ei
      · rename_i kvs0 g0
        obtain ⟨a0, ea0, vs0, g20, z0⟩ := r1.ob _ _ g0
        cases q1 with
        | ref ha =>
          rw [ha] at ea0; cases ea0
          refine ⟨_, rfl, .inl ⟨_, .inl g20⟩, ρ1, h1, env, r1, re.fut f1, Wp.bind w1 fun y h2 ρ2 H2 vy f2 r2 q2 w2 => ⟨ρ2, h2, env, r2, (re.fut f1).fut f2, Wp.bind w2 fun z h3 ρ3 H3 vz f3 r3 q3 w3 => ?_⟩⟩
          obtain ⟨d, h', e, k⟩ := w3.opt
          unfold get2D at e
          simp only at e
          split at e
          · rename_i kvs g
            split at e
            · rename_i key ek
              cases e
              obtain ⟨a, ea, vs, g2, zz⟩ := r3.ob _ _ g
              rw [((f2.trans f3).at ha)] at ea; cases ea
              have kk := dkey_v (q2.fut f3) ek
              refine ⟨valV vs key, by rw [kk]; exact .k g2, ?_⟩
              refine k ρ3 H3 _ .refl r3 ?_
              cases ev : valD kvs key with
              | none => rw [(zz.val key).2 ev]; exact q3
              | some x =>
                obtain ⟨w, e2, rw'⟩ := (zz.val key).1 _ ev
                rw [e2]; exact rw'
            · cases e
          · cases e
      · cases ei
    · cases ei
/-! ### list.pop(i) -/
def popAt (h : MH) (L : Nat) (i : Int) : Option (D × MH) := match h.get L with
  | some (.lst xs) => if -(2 ^ 63) ≤ i ∧ i < 2 ^ 63 then match seqIndex? i xs.length with
    | some k => match xs[k]? with
      | some y => some (y, h.set L (.lst (xs.eraseIdx k)))
      | none => none
    | none => none else none
  | _ => none
def popD (x : D) (ds : List D) (h : MH) : Option (D × MH) := match x, ds with
  | .ref i, [.int k] => popAt h i k
  | _, _ => none
def ePop (m : Mx) (ms : Ma) : Mx := fun env h => (m env h).bind fun x h1 => bif isLst h1 x then (ms env h1).bind fun ds h2 => ofOpt (popD x ds h2) else .bad
theorem RDs.erase {ds : List D} {vs : List V} (r : RDs K G ρ H ds vs) : ∀ k : Nat, RDs K G ρ H (ds.eraseIdx k) (vs.eraseIdx k) := by
  intro k
  rw [List.eraseIdx_eq_take_drop_succ, List.eraseIdx_eq_take_drop_succ]
  exact (r.take k).append (r.drop (k + 1))
theorem pop_rd {m : Mx} {ms : Ma} {σ : L2.St} {H : Hp} {Q : VK} (q : RdE X.K G W (ePop m ms) σ H Q) : tBM X.K "list" rPopAt (RdE X.K G W m) (RdA X.K G W ms) σ H Q := by
  obtain ⟨ρ, h, env, r, re, w⟩ := q
  refine ⟨ρ, h, env, r, re, Wp.bind w fun x h1 ρ1 H1 vx f1 r1 q1 w1 => ?_⟩
  cases el : isLst h1 x with
  | false => rw [el] at w1; exact w1.elim
  | true =>
    rw [el] at w1
    refine ⟨?_, ρ1, h1, env, r1, re.fut f1, Wp.bind w1 fun ds h2 ρ2 H2 vs f2 r2 q2 w2 => ?_⟩
    · unfold isLst at el
      split at el
      · rename_i i
        split at el
        · rename_i xs g1
          obtain ⟨a1, ys, p1, p2, p3⟩ := r1.lst g1
          cases q1 with
          | ref ha => rw [ha] at p1; cases p1; exact .inl ⟨rfl, _, .of p2⟩
        · cases el
      · cases el
    · obtain ⟨v, h', ea, k⟩ := w2.opt
      unfold popD at ea
      split at ea
      · rename_i i j
        unfold popAt at ea
        split at ea
        · rename_i xs g1
          split at ea
          · rename_i hb
            split at ea
            · rename_i n en
              split at ea
              · rename_i y ey
                cases ea
                obtain ⟨a1, ys, p1, p2, p3⟩ := r2.lst g1
                have q1' := q1.fut f2
                obtain ⟨vy, e2, ry⟩ := p3.get ey
                cases q2 with
                | cons b1 b2 =>
                  cases b2
                  cases b1
                  cases q1' with
                  | ref ha =>
                    rw [ha] at p1; cases p1
                    obtain ⟨fu, ru⟩ := r2.lset g1 ha p2 (p3.erase n)
                    exact ⟨_, ys, _, n, vy, rfl, rfl, p2, hb.1, hb.2, by rw [← p3.length]; exact en, e2, k _ _ _ fu ru (ry.fut fu)⟩
              · cases ea
            · cases ea
          · cases ea
        · cases ea
      · cases ea
end
theorem hu1 {k : Nat} {A : Around} (r : Room k A) : A.units + 1 < cLine := by have := r.un; omega
theorem me_imp {X : Cx} {e : Expr} {T T' : TE} (hT : ∀ σ H Q, T' σ H Q → T σ H Q) (p : PE X e T) : PE X e T' := PE.imp p hT
end MM

set_option Elab.async false
set_option linter.all false
set_option maxRecDepth 100000
set_option maxHeartbeats 4000000
set_option autoImplicit false
/-! what laws have in common: a feed of draws, plain things, what is shown -/
namespace MM
open PySem PySem.Spec PyProof.Rows L2
/-! ### memories -/
theorem MH.seq_lst {h : MH} {i : Nat} {xs : List D} (e : h.get i = some (.lst xs)) : h.seq i = some xs := by unfold MH.seq; rw [e]
/-- nothing is lost: what was there is there, but for the feed at i -/
structure Fd (i : Nat) (h h' : MH) : Prop where
  le : h.n ≤ h'.n
  ot : ∀ j, j ≠ i → j < h.n → h'.get j = h.get j
  lt : i < h'.n
  fd : ∃ a b, h'.get i = some (.lst [.int a, .int b])
theorem Fd.refl {i : Nat} {h : MH} (l : i < h.n) (f : ∃ a b, h.get i = some (.lst [.int a, .int b])) : Fd i h h := ⟨Nat.le_refl _, fun _ _ _ => rfl, l, f⟩
theorem Fd.trans {i : Nat} {h h' h'' : MH} (f : Fd i h h') (g : Fd i h' h'') : Fd i h h'' := ⟨Nat.le_trans f.le g.le, fun j hj l => (g.ot j hj (Nat.lt_of_lt_of_le l f.le)).trans (f.ot j hj l), g.lt, g.fd⟩
theorem Fd.set {i : Nat} {h : MH} (l : i < h.n) (a b : Int) : Fd i h (h.set i (.lst [.int a, .int b])) := ⟨Nat.le_refl _, fun j hj _ => MH.get_set_ne _ _ hj, l, a, b, MH.get_set_same _ _ _⟩
theorem Fd.self {i : Nat} {h h' : MH} (f : Fd i h h') : Fd i h' h' := .refl f.lt f.fd
theorem Fd.add {i : Nat} {h h' : MH} (f : Fd i h h') (o : O) : Fd i h (h'.add o) := f.trans ⟨by simp, fun j hj l => MH.get_add_ne _ _ (by omega), by have := f.lt; simp; omega, let ⟨a, b, e⟩ := f.fd; ⟨a, b, by rw [MH.get_add_ne _ _ (by have := f.lt; omega)]; exact e⟩⟩
/-- another object than the feed is written -/
theorem Fd.setO {i j : Nat} {h h' : MH} (f : Fd i h h') (hj : j ≠ i) (hn : h.n ≤ j) (o : O) : Fd i h (h'.set j o) := ⟨f.le, fun k hk l => by rw [MH.get_set_ne _ _ (by omega)]; exact f.ot k hk l, f.lt, let ⟨a, b, e⟩ := f.fd; ⟨a, b, by rw [MH.get_set_ne _ _ (Ne.symm hj)]; exact e⟩⟩
/-- nothing is changed, and more may be there -/
structure Ext (h h' : MH) : Prop where
  le : h.n ≤ h'.n
  ot : ∀ j, j < h.n → h'.get j = h.get j
theorem Ext.refl {h : MH} : Ext h h := ⟨Nat.le_refl _, fun _ _ => rfl⟩
theorem Ext.trans {h h' h'' : MH} (f : Ext h h') (g : Ext h' h'') : Ext h h'' := ⟨Nat.le_trans f.le g.le, fun j l => (g.ot j (Nat.lt_of_lt_of_le l f.le)).trans (f.ot j l)⟩
theorem Ext.add {h : MH} (o : O) : Ext h (h.add o) := ⟨by simp, fun j l => MH.get_add_ne _ _ (by omega)⟩
theorem Ext.fd {i : Nat} {h h' h'' : MH} (f : Fd i h h') (g : Ext h' h'') : Fd i h h'' := f.trans ⟨g.le, fun j _ l => g.ot j l, Nat.lt_of_lt_of_le f.lt g.le, let ⟨a, b, e⟩ := f.fd; ⟨a, b, by rw [g.ot _ f.lt]; exact e⟩⟩

/-! ### plain data -/
mutual
/-- nothing great, no object -/
def tame : Nat → D → Bool
  | _, .non => true
  | _, .bl _ => true
  | _, .int i => decide (i.natAbs.log2 < 190)
  | _, .str x => PyData.strOk x && decide ((reprText x).length ≤ 200)
  | f + 1, .tup xs => decide (xs.length ≤ 90) && tames f xs
  | _, _ => false
def tames : Nat → List D → Bool
  | _, [] => true
  | f, x :: xs => tame f x && tames f xs
end
mutual
def plain : D → PyData
  | .bl b => .bool b
  | .int i => .int i
  | .str x => .str x
  | .tup xs => .tuple (plains xs)
  | _ => .none
def plains : List D → List PyData
  | [] => []
  | x :: xs => plain x :: plains xs
end
theorem tames_iff {f : Nat} {xs : List D} : tames f xs = true ↔ ∀ d ∈ xs, tame f d = true := by
  induction xs with
  | nil => simp [tames]
  | cons x xs ih => simp [tames, ih]
theorem plains_len (xs : List D) : (plains xs).length = xs.length := by
  induction xs with
  | nil => rfl
  | cons x xs ih => simp [plains, ih]
def wide : Nat → Nat
  | 0 => 200
  | f + 1 => (wide f + 2) * 90 + 3
mutual
theorem tame_snap {h : MH} : ∀ {f : Nat} {d : D}, tame f d = true → ∀ g, f ≤ g → snap h g d = some (plain d)
  | _, .non, _, g, _ => by cases g <;> rfl
  | _, .bl _, _, g, _ => by cases g <;> rfl
  | _, .int _, _, g, _ => by cases g <;> rfl
  | _, .str _, _, g, _ => by cases g <;> rfl
  | 0, .tup xs, e, _, _ => by simp [tame] at e
  | f + 1, .tup xs, e, 0, l => by omega
  | f + 1, .tup xs, e, g + 1, l => by
    simp only [tame, Bool.and_eq_true] at e
    simp only [snap, plain]
    rw [tames_snap e.2 g (by omega)]; rfl
  | 0, .ref _, e, _, _ => by simp [tame] at e
  | _ + 1, .ref _, e, _, _ => by simp [tame] at e
  | 0, .ty _, e, _, _ => by simp [tame] at e
  | _ + 1, .ty _, e, _, _ => by simp [tame] at e
  | 0, .rep _, e, _, _ => by simp [tame] at e
  | _ + 1, .rep _, e, _, _ => by simp [tame] at e
  | 0, .stat _, e, _, _ => by simp [tame] at e
  | _ + 1, .stat _, e, _, _ => by simp [tame] at e
theorem tames_snap {h : MH} : ∀ {f : Nat} {ds : List D}, tames f ds = true → ∀ g, f ≤ g → snaps (snap h g) ds = some (plains ds)
  | _, [], _, _, _ => rfl
  | f, d :: ds, e, g, l => by
    simp only [tames, Bool.and_eq_true] at e
    simp only [snaps, plains]
    rw [tame_snap e.1 g l, tames_snap e.2 g l]
end
/-- what a tame thing is as data -/
structure Neat (f : Nat) (p : PyData) : Prop where
  lay : p.canLay0 = true
  show_ : p.showable = true
  depth : p.depth ≤ f + 1
  wide : repW p ≤ wide f
theorem wide_mono (f : Nat) : 200 ≤ wide f := by
  induction f with
  | zero => exact Nat.le_refl _
  | succ f ih => simp only [wide]; omega
mutual
theorem tame_neat : ∀ {f : Nat} {d : D}, tame f d = true → Neat f (plain d)
  | f, .non, _ => ⟨rfl, rfl, by simp [plain, PyData.depth], by have := wide_mono f; simp only [plain, repW]; omega⟩
  | f, .bl _, _ => ⟨rfl, rfl, by simp [plain, PyData.depth], by have := wide_mono f; simp only [plain, repW]; omega⟩
  | f, .int i, e => by
    have e' : i.natAbs.log2 < 190 := by cases f <;> simpa [tame] using e
    exact ⟨rfl, by simp [plain, PyData.showable]; omega, by simp [plain, PyData.depth], by have := wide_mono f; simp only [plain, repW]; omega⟩
  | f, .str x, e => by
    have e' : PyData.strOk x = true ∧ (reprText x).length ≤ 200 := by cases f <;> simpa [tame] using e
    exact ⟨by simpa [plain, PyData.canLay0] using e'.1, rfl, by simp [plain, PyData.depth], by have := wide_mono f; simp only [plain, repW]; omega⟩
  | 0, .tup xs, e => by simp [tame] at e
  | f + 1, .tup xs, e => by
    simp only [tame, Bool.and_eq_true] at e
    have l := of_decide_eq_true e.1
    obtain ⟨h1, h2, h3, h4⟩ := tames_neat e.2
    refine ⟨by simpa [plain, PyData.canLay0] using h1, by simpa [plain, PyData.showable] using h2, by simp only [plain, PyData.depth]; omega, ?_⟩
    simp only [plain, repW, MM.wide]
    have : xs.length * (MM.wide f + 2) ≤ 90 * (MM.wide f + 2) := Nat.mul_le_mul_right _ l
    omega
  | 0, .ref _, e => by simp [tame] at e
  | _ + 1, .ref _, e => by simp [tame] at e
  | 0, .ty _, e => by simp [tame] at e
  | _ + 1, .ty _, e => by simp [tame] at e
  | 0, .rep _, e => by simp [tame] at e
  | _ + 1, .rep _, e => by simp [tame] at e
  | 0, .stat _, e => by simp [tame] at e
  | _ + 1, .stat _, e => by simp [tame] at e
theorem tames_neat : ∀ {f : Nat} {ds : List D}, tames f ds = true → PyData.canLayAll0 (plains ds) = true ∧ PyData.showableAll (plains ds) = true ∧ PyData.depthAll (plains ds) ≤ f + 1 ∧ repWs (plains ds) ≤ ds.length * (wide f + 2)
  | _, [], _ => by simp [plains, PyData.canLayAll0, PyData.showableAll, PyData.depthAll, repWs]
  | f, d :: ds, e => by
    simp only [tames, Bool.and_eq_true] at e
    obtain ⟨a1, a2, a3, a4⟩ := tame_neat e.1
    obtain ⟨b1, b2, b3, b4⟩ := tames_neat e.2
    refine ⟨by simp [plains, PyData.canLayAll0, a1, b1], by simp [plains, PyData.showableAll, a2, b2], by simp only [plains, PyData.depthAll]; omega, ?_⟩
    simp only [plains, repWs, List.length_cons, Nat.add_mul, Nat.one_mul]
    omega
end
theorem Neat.repOk {f : Nat} {p : PyData} (n : Neat f p) (hf : f ≤ 2) : repOk p = true := by
  unfold MM.repOk SeqAt.shaped
  have w : MM.wide f ≤ sizeLine := by
    rcases f with _ | _ | _ | f
    · decide
    · decide
    · decide
    · omega
  have := n.depth
  simp only [Bool.and_eq_true, decide_eq_true_eq]
  exact ⟨⟨⟨n.lay, by omega⟩, n.show_⟩, Nat.le_trans n.wide w⟩
theorem eqv_self (x : Str) : PyData.eqv (.str x) (.str x) = true := by simp [PyData.eqv]
/-- repr twice told alike -/
theorem neRep {h : MH} {p : PyData} : neD (.rep p) (.rep p) h = some (.bl false, h) := by simp [neD, eqB]
/-- a for that looks for the first one that is not good -/
theorem forL_look {it : MI} {t : Tg} {body : Ms} {v : D} (good : Nat → Bool) (I : ME → Prop) {h : MH}
    (step : ∀ k env, k < it.n → I env → ∃ d e1, it.at h k = some d ∧ asg h t d env = some e1 ∧ ((good k = true ∧ ∃ e2, body e1 h = .nx e2 h ∧ I e2) ∨ (good k = false ∧ body e1 h = .rt v h)))
    (fin : it.fin h = true) : ∀ (r k : Nat) (env : ME), k + r = it.n → I env →
      (∃ e, forL it t body r k env h = .nx e h ∧ I e ∧ ∀ j, k ≤ j → j < it.n → good j = true) ∨ (forL it t body r k env h = .rt v h ∧ ∃ j, k ≤ j ∧ j < it.n ∧ good j = false) := by
  intro r
  induction r with
  | zero => exact fun k env e q => .inl ⟨env, by rw [forL, if_pos fin], q, fun j h1 h2 => by omega⟩
  | succ r ih =>
    intro k env e q
    obtain ⟨d, e1, h1, h2, z⟩ := step k env (by omega) q
    rw [forL, h1]
    simp only [h2]
    rcases z with ⟨g, e2, b, q2⟩ | ⟨g, b⟩
    · rw [b]
      rcases ih (k + 1) e2 (by omega) q2 with ⟨e', a1, a2, a3⟩ | ⟨a1, j, a2, a3, a4⟩
      · refine .inl ⟨e', a1, a2, fun j l1 l2 => ?_⟩
        by_cases hj : j = k
        · rw [hj]; exact g
        · exact a3 j (by omega) l2
      · exact .inr ⟨a1, j, by omega, a3, a4⟩
    · rw [b]
      exact .inr ⟨rfl, k, Nat.le_refl _, by omega, g⟩
theorem shifts_lo (k : Nat) : ∀ (d : D), d.lo 0 = true → d.shift k = d := by
  intro d
  refine D.rec (motive_1 := fun d => d.lo 0 = true → d.shift k = d) (motive_2 := fun ds => D.los 0 ds = true → D.shifts k ds = ds) ?_ ?_ ?_ ?_ ?_ ?_ ?_ ?_ ?_ ?_ ?_ d
  all_goals intros
  all_goals first | rfl | skip
  · rename_i ih h
    rw [D.shift, ih (by simpa [D.lo] using h)]
  · rename_i h
    simp [D.lo] at h
  · rename_i h1 h2 h
    rw [D.los, Bool.and_eq_true] at h
    rw [D.shifts, h1 h.1, h2 h.2]
theorem shiftL (k : Nat) : ∀ (ds : List D), D.los 0 ds = true → D.shifts k ds = ds
  | [], _ => rfl
  | d :: ds, h => by
    rw [D.los, Bool.and_eq_true] at h
    rw [D.shifts, shifts_lo k d h.1, shiftL k ds h.2]
/-- the list that a def tells, where it names no object -/
def cell : Res D → Option (List D)
  | .ok (.ref r) h2 => bif Nat.blt r h2.n then match h2.get r with
    | some (.lst xs) => bif D.los 0 xs then some xs else none
    | _ => none else none
  | _ => none
theorem loc_ref {f : Fn} {ds : List D} {xs : List D} (hd : D.los 0 ds = true) (e : cell (f ds MH.nil) = some xs) (h : MH) :
    ∃ (j : Nat) (h' : MH), loc f ds h = .ok (.ref j) h' ∧ Ext h h' ∧ h.n ≤ j ∧ j < h'.n ∧ h'.get j = some (.lst xs) := by
  unfold cell at e
  split at e
  · rename_i r h2 e1
    cases hr : Nat.blt r h2.n with
    | false => rw [hr] at e; cases e
    | true =>
      rw [hr] at e
      simp only [cond_true] at e
      split at e
      · rename_i xs' g
        cases hx : D.los 0 xs' with
        | false => rw [hx] at e; cases e
        | true =>
          rw [hx] at e
          cases e
          have lr : r < h2.n := Nat.le_of_ble_eq_true hr
          refine ⟨h.n + r, h.more h.n (h2.objs h2.n), ?_, ⟨by rw [more_n]; omega, fun j l => by rw [more_get, if_pos l]⟩, by omega, by rw [more_n, objs_len]; omega, ?_⟩
          · unfold loc
            have b0 : r.blt 0 = false := rfl
            simp [hd, e1, D.lo, D.shift, b0]
          · rw [more_get, if_neg (by omega), objs_len, if_pos (by omega), Nat.add_sub_cancel_left, objs_get _ _ _ lr, g]
            simp [O.shift, shiftL _ _ hx]
      · cases e
  · cases e
mutual
def tly : D → Nat
  | .tup xs => 1 + tlys xs
  | _ => 1
def tlys : List D → Nat
  | [] => 0
  | x :: xs => tly x + tlys xs
end
mutual
theorem repW_cnt : ∀ {f : Nat} {d : D}, tame f d = true → repW (plain d) + 5 ≤ 210 * tly d
  | f, .non, _ => by simp [plain, repW, tly]
  | f, .bl _, _ => by simp [plain, repW, tly]
  | f, .int i, e => by
    have e' : i.natAbs.log2 < 190 := by cases f <;> simpa [tame] using e
    simp only [plain, repW, tly]; omega
  | f, .str x, e => by
    have e' : PyData.strOk x = true ∧ (reprText x).length ≤ 200 := by cases f <;> simpa [tame] using e
    simp only [plain, repW, tly]; omega
  | 0, .tup xs, e => by simp [tame] at e
  | f + 1, .tup xs, e => by
    simp only [tame, Bool.and_eq_true] at e
    have := repWs_cnts e.2
    simp only [plain, repW, tly]; omega
  | 0, .ref _, e => by simp [tame] at e
  | _ + 1, .ref _, e => by simp [tame] at e
  | 0, .ty _, e => by simp [tame] at e
  | _ + 1, .ty _, e => by simp [tame] at e
  | 0, .rep _, e => by simp [tame] at e
  | _ + 1, .rep _, e => by simp [tame] at e
  | 0, .stat _, e => by simp [tame] at e
  | _ + 1, .stat _, e => by simp [tame] at e
theorem repWs_cnts : ∀ {f : Nat} {ds : List D}, tames f ds = true → repWs (plains ds) ≤ 210 * tlys ds
  | _, [], _ => by simp [plains, repWs, tlys]
  | f, d :: ds, e => by
    simp only [tames, Bool.and_eq_true] at e
    have h1 := repW_cnt e.1
    have h2 := repWs_cnts e.2
    simp only [plains, repWs, tlys]; omega
end
/-- repr of a tame thing, of a list of tame things -/
theorem repr_tame {f : Nat} {d : D} {h : MH} (e : tame f d = true) (hf : f ≤ 30) (hc : tly d ≤ 10000) : reprF [d] h = some (.rep (plain d), h) := by
  have sn := tame_snap (h := h) e deep (by unfold deep; omega)
  have n := tame_neat e
  have w := repW_cnt e
  have big : (2100000 : Nat) ≤ sizeLine := by decide
  have dp := n.depth
  have ok : repOk (plain d) = true := by
    unfold MM.repOk SeqAt.shaped
    simp only [Bool.and_eq_true, decide_eq_true_eq]
    exact ⟨⟨⟨n.lay, by omega⟩, n.show_⟩, by omega⟩
  simp [reprF, sn, ok]
theorem repr_list {f : Nat} {ds : List D} {r : Nat} {h : MH} (g : h.get r = some (.lst ds)) (e : tames f ds = true) (hf : f ≤ 30) (hc : tlys ds ≤ 10000) : reprF [.ref r] h = some (.rep (.list (plains ds)), h) := by
  have sq := MH.seq_lst g
  have sn := tames_snap (h := h) e 39 (by omega)
  obtain ⟨n1, n2, n3, n4⟩ := tames_neat e
  have w := repWs_cnts e
  have big : (2100002 : Nat) ≤ sizeLine := by decide
  have ok : repOk (.list (plains ds)) = true := by
    unfold MM.repOk SeqAt.shaped
    simp only [Bool.and_eq_true, decide_eq_true_eq]
    refine ⟨⟨⟨by simpa [PyData.canLay0] using n1, by simp only [PyData.depth]; omega⟩, by simpa [PyData.showable] using n2⟩, by simp only [repW]; omega⟩
  simp [reprF, snap, deep, sq, sn, ok]
/-! ### step by step -/
theorem sSeq_nx {a b : Ms} {env e : ME} {h h1 : MH} (q : a env h = .nx e h1) : sSeq a b env h = b e h1 := by unfold sSeq; rw [q]
theorem sSeq_rt {a b : Ms} {env : ME} {h h1 : MH} {v : D} (q : a env h = .rt v h1) : sSeq a b env h = .rt v h1 := by unfold sSeq; rw [q]
theorem sSeq_skip {t : Mt} {a c : Ms} {env : ME} {h h1 : MH} (q : t env h = .ok false h1) : sSeq (sIf t a sNil) c env h = c env h1 := by
  unfold sSeq sIf
  rw [q]
  rfl
theorem sSeq_go {t : Mt} {a b c : Ms} {env : ME} {h h1 : MH} (q : t env h = .ok true h1) : sSeq (sIf t a b) c env h = sSeq a c env h1 := by
  unfold sSeq sIf
  rw [q]
  rfl
theorem sIf_go {t : Mt} {a b : Ms} {env : ME} {h h1 : MH} (q : t env h = .ok true h1) : sIf t a b env h = a env h1 := by
  unfold sIf
  rw [q]
  rfl
theorem sIf_not {t : Mt} {a b : Ms} {env : ME} {h h1 : MH} (q : t env h = .ok false h1) : sIf t a b env h = b env h1 := by
  unfold sIf
  rw [q]
  rfl
theorem runD_rt {n : Nat} {b : Ms} {ds : List D} {h h1 : MH} {v : D} (q : b (ds.map some ++ List.replicate (n - ds.length) none) h = .rt v h1) : runD n b ds h = .ok v h1 := by
  unfold runD
  rw [q]
theorem eLc_of {mi : Mi} {t : Tg} {tt : Mt} {te : Mx} {own : List Nat} {env : ME} {h h1 h2 : MH} {it : MI} (q1 : mi env h = .ok it h1) (q2 : lcL it t tt te (wipeE env own) h1.n it.n 0 (h1.add (.lst [])) = some h2) : eLc mi t tt te own env h = .ok (.ref h1.n) h2 := by
  unfold eLc
  rw [q1]
  simp only [Res.bind, q2]
theorem eF1 {f : Fn} {m1 : Mx} {a : D} {env : ME} {h h1 : MH} {r : Res D} (q1 : m1 env h = .ok a h1) (q : f [a] h1 = r) : eF f (aCons m1 aNil) env h = r := by
  simp only [eF, aCons, aNil, q1, Res.bind, q]
theorem eF2 {f : Fn} {m1 m2 : Mx} {a b : D} {env : ME} {h h1 h2 : MH} {r : Res D} (q1 : m1 env h = .ok a h1) (q2 : m2 env h1 = .ok b h2) (q : f [a, b] h2 = r) : eF f (aCons m1 (aCons m2 aNil)) env h = r := by
  simp only [eF, aCons, aNil, q1, q2, Res.bind, q]
theorem eF3 {f : Fn} {m1 m2 m3 : Mx} {a b c : D} {env : ME} {h h1 h2 h3 : MH} {r : Res D} (q1 : m1 env h = .ok a h1) (q2 : m2 env h1 = .ok b h2) (q3 : m3 env h2 = .ok c h3) (q : f [a, b, c] h3 = r) : eF f (aCons m1 (aCons m2 (aCons m3 aNil))) env h = r := by
  simp only [eF, aCons, aNil, q1, q2, q3, Res.bind, q]
theorem eF4 {f : Fn} {m1 m2 m3 m4 : Mx} {a b c d : D} {env : ME} {h h1 h2 h3 h4 : MH} {r : Res D} (q1 : m1 env h = .ok a h1) (q2 : m2 env h1 = .ok b h2) (q3 : m3 env h2 = .ok c h3) (q4 : m4 env h3 = .ok d h4) (q : f [a, b, c, d] h4 = r) : eF f (aCons m1 (aCons m2 (aCons m3 (aCons m4 aNil)))) env h = r := by
  simp only [eF, aCons, aNil, q1, q2, q3, q4, Res.bind, q]
theorem lenE {k : Nat} {xs : List D} {env : ME} {h : MH} (e : env[k]? = some (some (.tup xs))) : eCB lenF (aCons (eVar k) aNil) env h = .ok (.int xs.length) h := by
  simp only [eCB, aCons, aNil, eVar, e, Res.bind, lenF, lenN, Option.map_some, ofOpt]
theorem sSet_ok {i : Nat} {m : Mx} {a : D} {env : ME} {h h1 : MH} (q : m env h = .ok a h1) : sSet i m env h = .nx (env.set i (some a)) h1 := by
  unfold sSet
  rw [q]
  rfl
theorem sRet_ok {m : Mx} {a : D} {env : ME} {h h1 : MH} (q : m env h = .ok a h1) : sRet m env h = .rt a h1 := by
  unfold sRet
  rw [q]
  rfl
theorem twoT {m m2 : Mx} {a b : D} {env : ME} {h h1 h2 : MH} (q1 : m env h = .ok a h1) (q2 : m2 env h1 = .ok b h2) : eTup (aCons m (aCons m2 aNil)) env h = .ok (.tup [a, b]) h2 := by
  have : ([a, b] : List D).length ≤ sizeLine := show 2 ≤ sizeLine from by decide
  simp only [eTup, aCons, aNil, q1, q2, Res.bind, mkTup, if_pos this, ofOpt]
theorem threeT {m m2 m3 : Mx} {a b c : D} {env : ME} {h h1 h2 h3 : MH} (q1 : m env h = .ok a h1) (q2 : m2 env h1 = .ok b h2) (q3 : m3 env h2 = .ok c h3) : eTup (aCons m (aCons m2 (aCons m3 aNil))) env h = .ok (.tup [a, b, c]) h3 := by
  have : ([a, b, c] : List D).length ≤ sizeLine := show 3 ≤ sizeLine from by decide
  simp only [eTup, aCons, aNil, q1, q2, q3, Res.bind, mkTup, if_pos this, ofOpt]
theorem threeL {m m2 m3 : Mx} {a b c : D} {env : ME} {h h1 h2 h3 : MH} (q1 : m env h = .ok a h1) (q2 : m2 env h1 = .ok b h2) (q3 : m3 env h2 = .ok c h3) : eLst (aCons m (aCons m2 (aCons m3 aNil))) env h = .ok (.ref h3.n) (h3.add (.lst [a, b, c])) := by
  have : ([a, b, c] : List D).length ≤ sizeLine := show 3 ≤ sizeLine from by decide
  simp only [eLst, aCons, aNil, q1, q2, q3, Res.bind, mkLst, if_pos this, ofOpt]
theorem parT {i j : Nat} {m m2 : Mx} {a b : D} {env : ME} {h h1 h2 : MH} (q1 : m env h = .ok a h1) (q2 : m2 env h1 = .ok b h2) : sPar i j (aCons m (aCons m2 aNil)) env h = .nx ((env.set i (some a)).set j (some b)) h2 := by
  simp only [sPar, aCons, aNil, q1, q2, Res.bind, Res.toS]
theorem eCB1 {f : List D → MH → Option (D × MH)} {m : Mx} {a b : D} {env : ME} {h h1 h2 : MH} (q1 : m env h = .ok a h1) (q : f [a] h1 = some (b, h2)) : eCB f (aCons m aNil) env h = .ok b h2 := by
  simp only [eCB, aCons, aNil, q1, Res.bind, q, ofOpt]
theorem eOp2 {f : D → D → MH → Option (D × MH)} {m m2 : Mx} {a b c : D} {env : ME} {h h1 h2 h3 : MH} (q1 : m env h = .ok a h1) (q2 : m2 env h1 = .ok b h2) (q : f a b h2 = some (c, h3)) : eOp f m m2 env h = .ok c h3 := by
  simp only [eOp, q1, q2, Res.bind, q, ofOpt]
theorem tBl_ok {m : Mx} {k : Bool} {env : ME} {h h1 : MH} (q : m env h = .ok (.bl k) h1) : tBl m env h = .ok k h1 := by
  simp only [tBl, q, Res.bind, isB]
theorem tOr_no {a b : Mt} {k : Bool} {env : ME} {h h1 h2 : MH} (q1 : a env h = .ok false h1) (q2 : b env h1 = .ok k h2) : tOrM a b env h = .ok k h2 := by
  simp only [tOrM, q1, Res.bind, q2]
end MM

set_option Elab.async false
set_option linter.all false
set_option maxRecDepth 100000
set_option maxHeartbeats 4000000
set_option autoImplicit false
/-! the feed of the laws -/
namespace MF
open PySem PySem.Spec PyProof.Rows L2 MM
def b__law_feed : Ms :=
  (sSeq (sSet 2 (eIfM (tBl (eOp ltD (eVar 1) (eCB lenF (aCons (eVar 0) aNil)))) (eOp ixD (eVar 0) (eVar 1)) (eOp addD (eOp mulD (eC (.int (83))) (eVar 1)) (eC (.int (29))))))
   
      (sSeq (sSet 3 (eCB maxF (aCons (eC (.int (0))) (aCons (eOp subD (eCB absF (aCons (eVar 2) aNil)) (eOp powD (eC (.int (10))) (eC (.int (18))))) aNil))))
    (sSeq (sSet 4 (eOp
      modD (eCB intF (aCons (eOp addD (eOp addD (eOp mulD (eVar 2) (eC (.int (6364136223846793005)))) (eOp mulD (eC (.int (7919))) (eVar 1))) (eC (.int (1442695040888963407))))
      aNil)) (eC (.int (2305843009213693951)))))
    (sRet (eLst (aCons (eVar 3) (aCons (eVar 4) aNil)))))))
def m__law_feed : Fn := runD 5 b__law_feed
def b__law_take : Ms :=
  (sSeq (sIf (tBl (eOp gtD (eOp ixD (eVar 0) (eC (.int (0)))) (eC (.int (0))))) (sSeq (sSet 2 (eOp modD (eCB intF (aCons (eOp ixD (eVar 0) (eC (.int (0)))) aNil)) (eVar 1)))
   
      (sSeq (sSub (eVar 0) (eC (.int (0))) (eOp fdivD (eOp ixD (eVar 0) (eC (.int (0)))) (eVar 1)))
    (sRet (eVar 2)))) sNil)
    (sSeq (sSub (eVar 0) (eC (.int (1))) (eOp modD
      (eCB intF (aCons (eOp addD (eOp mulD (eOp ixD (eVar 0) (eC (.int (1)))) (eC (.int (6364136223846793005)))) (eC (.int (1442695040888963407)))) aNil)) (eC (.int
      (2305843009213693951)))))
    (sRet (eOp modD (eCB intF (aCons (eOp fdivD (eOp ixD (eVar 0) (eC (.int (1)))) (eC (.int (65536)))) aNil)) (eVar 1)))))
def m__law_take : Fn := runD 3 b__law_take
def b__law_pick : Ms :=
  (sRet (eOp ixD (eVar 1) (eF m__law_take (aCons (eVar 0) (aCons (eCB lenF (aCons (eVar 1) aNil)) aNil)))))
def m__law_pick : Fn := runD 2 b__law_pick
theorem ix0 (a b : D) : L2.atI [a, b] 0 = some a := rfl
theorem ix1 (a b : D) : L2.atI [a, b] 1 = some b := rfl
theorem ixn0 : L2.ixN 2 0 = some 0 := rfl
theorem ixn1 : L2.ixN 2 1 = some 1 := rfl
theorem sm1 : small64 6364136223846793005 = true := by decide
/-- a draw -/
theorem take {i : Nat} {h : MH} (l : i < h.n) (f : ∃ a b : Int, h.get i = some (.lst [.int a, .int b])) {m : Int} (h0 : 0 < m) (h1 : m < 1073741824) :
    ∃ (r : Int) (h' : MH), 0 ≤ r ∧ r < m ∧ m__law_take [.ref i, .int m] h = .ok (.int r) h' ∧ Fd i h h' ∧ h'.n = h.n := by
  obtain ⟨a, b, f⟩ := f
  have sq := MH.seq_lst f
  unfold m__law_take b__law_take
  by_cases hp : 0 < a
  · refine ⟨a % m, h.set i (.lst [.int (a / m), .int b]), Int.emod_nonneg _ (by omega), Int.emod_lt_of_pos _ h0, ?_, Fd.set l _ _, rfl⟩
    simp [runD, sSeq, sRet, sIf, sSet, sEx, sSub, sNil, eVar, eC, eOp, eChain, tTruth, tBl, tNotM, tAndM, tOrM, eAndM, eOrM, eNotM, eIfM, aNil, aCons, eTup, eLst, mkLst, mkTup, eCB, eF, eSl, oPart, oNone, eUn, isB, truD, isiF, tyOf, subT, leD, ltD, gtD, geD, cmpD, lenF, lenN, neD, eqD, eqB, ofOpt, MM.keep, Res.bind, Res.toS, ixD, addD, subD, modD, fdivD, intF, List.replicate, setD, negD, mulD, sizeLine, sq, f, ix0, ix1, ixn0, hp, h0, h1]
  · let s : Int := (b * 6364136223846793005 + 1442695040888963407) % 2305843009213693951
    have sq2 := MH.seq_lst (MH.get_set_same h i (.lst [.int a, .int s]))
    refine ⟨s / 65536 % m, h.set i (.lst [.int a, .int s]), Int.emod_nonneg _ (by omega), Int.emod_lt_of_pos _ h0, ?_, Fd.set l _ _, rfl⟩
    simp [runD, sSeq, sRet, sIf, sSet, sEx, sSub, sNil, eVar, eC, eOp, eChain, tTruth, tBl, tNotM, tAndM, tOrM, eAndM, eOrM, eNotM, eIfM, aNil, aCons, eTup, eLst, mkLst, mkTup, eCB, eF, eSl, oPart, oNone, eUn, isB, truD, isiF, tyOf, subT, leD, ltD, gtD, geD, cmpD, lenF, lenN, neD, eqD, eqB, ofOpt, MM.keep, Res.bind, Res.toS, ixD, addD, subD, modD, fdivD, intF, List.replicate, setD, negD, mulD, sizeLine, sq, f, ix0, ix1, ixn0, ixn1, hp, h0, h1, sm1, sq2, s]
theorem atI_nat {α : Type} {xs : List α} {r : Int} (h0 : 0 ≤ r) (h1 : r < xs.length) : ∃ x, x ∈ xs ∧ L2.atI xs r = some x := by
  obtain ⟨n, rfl⟩ := Int.eq_ofNat_of_zero_le h0
  have hn : n < xs.length := by omega
  refine ⟨xs[n], List.getElem_mem _, ?_⟩
  unfold L2.atI
  rw [show L2.ixN xs.length (n : Int) = some n from by unfold L2.ixN; simp [runD, sSeq, sRet, sIf, sSet, sEx, sSub, sNil, eVar, eC, eOp, eChain, tTruth, tBl, tNotM, tAndM, tOrM, eAndM, eOrM, eNotM, eIfM, aNil, aCons, eTup, eLst, mkLst, mkTup, eCB, eF, eSl, oPart, oNone, eUn, isB, truD, isiF, tyOf, subT, leD, ltD, gtD, geD, cmpD, lenF, lenN, neD, eqD, eqB, ofOpt, MM.keep, Res.bind, Res.toS, ixD, addD, subD, modD, fdivD, intF, List.replicate, setD, negD, mulD, sizeLine, h1]]
  simp [runD, sSeq, sRet, sIf, sSet, sEx, sSub, sNil, eVar, eC, eOp, eChain, tTruth, tBl, tNotM, tAndM, tOrM, eAndM, eOrM, eNotM, eIfM, aNil, aCons, eTup, eLst, mkLst, mkTup, eCB, eF, eSl, oPart, oNone, eUn, isB, truD, isiF, tyOf, subT, leD, ltD, gtD, geD, cmpD, lenF, lenN, neD, eqD, eqB, ofOpt, MM.keep, Res.bind, Res.toS, ixD, addD, subD, modD, fdivD, intF, List.replicate, setD, negD, mulD, sizeLine, hn]
theorem pick {i j : Nat} {h : MH} (l : i < h.n) (f : ∃ a b : Int, h.get i = some (.lst [.int a, .int b])) {xs : List D} (g : h.get j = some (.lst xs)) (hj : j ≠ i) (lj : j < h.n) (h0 : xs ≠ []) (h1 : xs.length < 1000) :
    ∃ (x : D) (h' : MH), x ∈ xs ∧ m__law_pick [.ref i, .ref j] h = .ok x h' ∧ Fd i h h' ∧ h'.n = h.n := by
  have lp : 0 < xs.length := List.length_pos_iff.mpr h0
  obtain ⟨r, h', a1, a2, a3, a4, a5⟩ := take l f (m := (xs.length : Int)) (by omega) (by omega)
  obtain ⟨x, b1, b2⟩ := atI_nat a1 a2
  have sq := MH.seq_lst g
  have sq' := MH.seq_lst ((a4.ot j hj lj).trans g)
  refine ⟨x, h', b1, ?_, a4, a5⟩
  unfold m__law_pick b__law_pick
  simp [runD, sSeq, sRet, sIf, sSet, sEx, sSub, sNil, eVar, eC, eOp, eChain, tTruth, tBl, tNotM, tAndM, tOrM, eAndM, eOrM, eNotM, eIfM, aNil, aCons, eTup, eLst, mkLst, mkTup, eCB, eF, eSl, oPart, oNone, eUn, isB, truD, isiF, tyOf, subT, leD, ltD, gtD, geD, cmpD, lenF, lenN, neD, eqD, eqB, ofOpt, MM.keep, Res.bind, Res.toS, ixD, addD, subD, modD, fdivD, intF, List.replicate, setD, negD, mulD, sizeLine, sq, a3, sq', b2]
theorem feed {h : MH} {k : Int} {ns : List Int} {b : Bool} (hs : h.get 0 = some (if b = true then .kl (ns.map D.int) else .ro (ns.map D.int))) (h0 : 0 ≤ k) (h1 : k < 100) :
    ∃ h', m__law_feed [.ref 0, .int k] h = .ok (.ref h.n) h' ∧ Ext h h' ∧ Fd h.n h' h' := by
  have sq : h.seq 0 = some (ns.map D.int) := by unfold MH.seq; rw [hs]; cases b <;> kernel_rfl
  have run : ∃ a b : Int, m__law_feed [.ref 0, .int k] h = .ok (.ref h.n) (h.add (.lst [.int a, .int b])) := by
    unfold m__law_feed b__law_feed
    by_cases hk : k < ns.length
    · obtain ⟨x, b1, b2⟩ := atI_nat (xs := ns.map D.int) h0 (by simpa [runD, sSeq, sRet, sIf, sSet, sEx, sSub, sNil, eVar, eC, eOp, eChain, tTruth, tBl, tNotM, tAndM, tOrM, eAndM, eOrM, eNotM, eIfM, aNil, aCons, eTup, eLst, mkLst, mkTup, eCB, eF, eSl, oPart, oNone, eUn, isB, truD, isiF, tyOf, subT, leD, ltD, gtD, geD, cmpD, lenF, lenN, neD, eqD, eqB, ofOpt, MM.keep, Res.bind, Res.toS, ixD, addD, subD, modD, fdivD, intF, List.replicate, setD, negD, mulD, sizeLine] using hk)
      obtain ⟨c, _, rfl⟩ := List.mem_map.mp b1
      simp [runD, sSeq, sRet, sIf, sSet, sEx, sSub, sNil, eVar, eC, eOp, eChain, tTruth, tBl, tNotM, tAndM, tOrM, eAndM, eOrM, eNotM, eIfM, aNil, aCons, eTup, eLst, mkLst, mkTup, eCB, eF, eSl, oPart, oNone, eUn, isB, truD, isiF, tyOf, subT, leD, ltD, gtD, geD, cmpD, lenF, lenN, neD, eqD, eqB, ofOpt, MM.keep, Res.bind, Res.toS, ixD, addD, subD, modD, fdivD, intF, List.replicate, setD, negD, mulD, sizeLine, sq, hk, b2, sm1, absF, maxF, powD, MM.small64, sizeLine]
      exact ⟨_, _, rfl⟩
    · simp [runD, sSeq, sRet, sIf, sSet, sEx, sSub, sNil, eVar, eC, eOp, eChain, tTruth, tBl, tNotM, tAndM, tOrM, eAndM, eOrM, eNotM, eIfM, aNil, aCons, eTup, eLst, mkLst, mkTup, eCB, eF, eSl, oPart, oNone, eUn, isB, truD, isiF, tyOf, subT, leD, ltD, gtD, geD, cmpD, lenF, lenN, neD, eqD, eqB, ofOpt, MM.keep, Res.bind, Res.toS, ixD, addD, subD, modD, fdivD, intF, List.replicate, setD, negD, mulD, sizeLine, sq, hk, sm1, absF, maxF, powD, MM.small64, sizeLine]
      exact ⟨_, _, rfl⟩
  obtain ⟨a, b, e⟩ := run
  exact ⟨_, e, .add _, .refl (by simp [runD, sSeq, sRet, sIf, sSet, sEx, sSub, sNil, eVar, eC, eOp, eChain, tTruth, tBl, tNotM, tAndM, tOrM, eAndM, eOrM, eNotM, eIfM, aNil, aCons, eTup, eLst, mkLst, mkTup, eCB, eF, eSl, oPart, oNone, eUn, isB, truD, isiF, tyOf, subT, leD, ltD, gtD, geD, cmpD, lenF, lenN, neD, eqD, eqB, ofOpt, MM.keep, Res.bind, Res.toS, ixD, addD, subD, modD, fdivD, intF, List.replicate, setD, negD, mulD, sizeLine]) ⟨a, b, MH.get_add_same _ _⟩⟩
theorem log_le {i : Int} (h0 : -70 ≤ i) (h1 : i < 70) : i.natAbs.log2 < 190 := by
  have : i.natAbs < 2 ^ 190 := Nat.lt_of_lt_of_le (by omega : i.natAbs < 71) (by decide)
  by_cases hz : i.natAbs = 0
  · rw [hz]; decide
  · exact (Nat.log2_lt hz).mpr this
theorem ints_lo : ∀ bs : List Int, D.los 0 (bs.map D.int) = true
  | [] => rfl
  | b :: bs => by simp [runD, sSeq, sRet, sIf, sSet, sEx, sSub, sNil, eVar, eC, eOp, eChain, tTruth, tBl, tNotM, tAndM, tOrM, eAndM, eOrM, eNotM, eIfM, aNil, aCons, eTup, eLst, mkLst, mkTup, eCB, eF, eSl, oPart, oNone, eUn, isB, truD, isiF, tyOf, subT, leD, ltD, gtD, geD, cmpD, lenF, lenN, neD, eqD, eqB, ofOpt, MM.keep, Res.bind, Res.toS, ixD, addD, subD, modD, fdivD, intF, List.replicate, setD, negD, mulD, sizeLine, D.los, D.lo, ints_lo bs]
theorem bools_map : ∀ bs : List Bool, boolsD (bs.map D.bl) = some bs
  | [] => rfl
  | b :: bs => by simp [runD, sSeq, sRet, sIf, sSet, sEx, sSub, sNil, eVar, eC, eOp, eChain, tTruth, tBl, tNotM, tAndM, tOrM, eAndM, eOrM, eNotM, eIfM, aNil, aCons, eTup, eLst, mkLst, mkTup, eCB, eF, eSl, oPart, oNone, eUn, isB, truD, isiF, tyOf, subT, leD, ltD, gtD, geD, cmpD, lenF, lenN, neD, eqD, eqB, ofOpt, MM.keep, Res.bind, Res.toS, ixD, addD, subD, modD, fdivD, intF, List.replicate, setD, negD, mulD, sizeLine, boolsD, bools_map bs]
/-- a state: a draw for each base -/
def b__law_state : Ms :=
  (sRet (eCB tupleF (aCons (eLc (iSeq (eVar 1)) (.nm 2) tYesM (eF m__law_take (aCons (eVar 0) (aCons (eVar 2) aNil))) [2]) aNil)))
def m__law_state : Fn := runD 3 b__law_state
/-- a digit for each base, where the loop stands -/
theorem digits {i L s : Nat} {bs : List Int} (hb : bs.length ≤ 64) (h2 : ∀ b ∈ bs, 1 ≤ b ∧ b ≤ 64) {env : ME} (he : env[0]? = some (some (.ref i))) (hs : 0 < s) (h5 : s < env.length) (h0 : MH) (hL : L = h0.n) (f : Fd i h0 h0) :
    ∃ (ds : List Int) (h' : MH), lcL (.tup (bs.map D.int)) (.nm s) tYesM (eF m__law_take (aCons (eVar 0) (aCons (eVar s) aNil))) env L (MI.tup (bs.map D.int)).n 0 (h0.add (.lst [])) = some h' ∧ Fd i h0 h' ∧ h'.n = L + 1 ∧ h'.get L = some (.lst (ds.map D.int)) ∧ ds.length = bs.length ∧ (∀ k (h1 : k < ds.length) (h2 : k < bs.length), 0 ≤ ds[k] ∧ ds[k] < bs[k]) := by
  have lt := f.lt
  obtain ⟨acc, h', e, q⟩ := lcL_spec (it := .tup (bs.map D.int)) (t := .nm s) (tt := tYesM) (te := eF m__law_take (aCons (eVar 0) (aCons (eVar s) aNil))) (env := env) (L := L)
    (fun k acc h => Fd i h0 h ∧ h.n = L + 1 ∧ h.get L = some (.lst acc) ∧ ∃ ds : List Int, acc = ds.map D.int ∧ ds.length = k ∧ ∀ j (h1 : j < ds.length) (h2 : j < bs.length), 0 ≤ ds[j] ∧ ds[j] < bs[j]) (acc0 := []) (h0 := h0.add (.lst []))
    ⟨f.add _, by simp [runD, sSeq, sRet, sIf, sSet, sEx, sSub, sNil, eVar, eC, eOp, eChain, tTruth, tBl, tNotM, tAndM, tOrM, eAndM, eOrM, eNotM, eIfM, aNil, aCons, eTup, eLst, mkLst, mkTup, eCB, eF, eSl, oPart, oNone, eUn, isB, truD, isiF, tyOf, subT, leD, ltD, gtD, geD, cmpD, lenF, lenN, neD, eqD, eqB, ofOpt, MM.keep, Res.bind, Res.toS, ixD, addD, subD, modD, fdivD, intF, List.replicate, setD, negD, mulD, sizeLine, hL], by rw [hL]; exact MH.get_add_same _ _, [], rfl, rfl, fun j h1 => by cases h1⟩
    (fun k acc h hk ⟨q1, q2, q3, ds, q4, q5, q6⟩ => by
      have hk' : k < bs.length := by simpa [runD, sSeq, sRet, sIf, sSet, sEx, sSub, sNil, eVar, eC, eOp, eChain, tTruth, tBl, tNotM, tAndM, tOrM, eAndM, eOrM, eNotM, eIfM, aNil, aCons, eTup, eLst, mkLst, mkTup, eCB, eF, eSl, oPart, oNone, eUn, isB, truD, isiF, tyOf, subT, leD, ltD, gtD, geD, cmpD, lenF, lenN, neD, eqD, eqB, ofOpt, MM.keep, Res.bind, Res.toS, ixD, addD, subD, modD, fdivD, intF, List.replicate, setD, negD, mulD, sizeLine, MI.n] using hk
      obtain ⟨b0, b1⟩ := h2 _ (List.getElem_mem hk')
      obtain ⟨r, h2', a1, a2, a3, a4, a5⟩ := take q1.lt q1.fd (m := bs[k]) (by omega) (by omega)
      refine ⟨.int bs[k], env.set s (some (.int bs[k])), by simp [runD, sSeq, sRet, sIf, sSet, sEx, sSub, sNil, eVar, eC, eOp, eChain, tTruth, tBl, tNotM, tAndM, tOrM, eAndM, eOrM, eNotM, eIfM, aNil, aCons, eTup, eLst, mkLst, mkTup, eCB, eF, eSl, oPart, oNone, eUn, isB, truD, isiF, tyOf, subT, leD, ltD, gtD, geD, cmpD, lenF, lenN, neD, eqD, eqB, ofOpt, MM.keep, Res.bind, Res.toS, ixD, addD, subD, modD, fdivD, intF, List.replicate, setD, negD, mulD, sizeLine, MI.at, hk'], rfl, .inr ⟨h, .int r, h2', rfl, ?_, ?_, ?_, ?_⟩⟩
      · have e5 : (env.set s (some (D.int bs[k])))[s]? = some (some (D.int bs[k])) := by simp [runD, sSeq, sRet, sIf, sSet, sEx, sSub, sNil, eVar, eC, eOp, eChain, tTruth, tBl, tNotM, tAndM, tOrM, eAndM, eOrM, eNotM, eIfM, aNil, aCons, eTup, eLst, mkLst, mkTup, eCB, eF, eSl, oPart, oNone, eUn, isB, truD, isiF, tyOf, subT, leD, ltD, gtD, geD, cmpD, lenF, lenN, neD, eqD, eqB, ofOpt, MM.keep, Res.bind, Res.toS, ixD, addD, subD, modD, fdivD, intF, List.replicate, setD, negD, mulD, sizeLine, h5]
        have e0 : (env.set s (some (D.int bs[k])))[0]? = some (some (D.ref i)) := by rw [List.getElem?_set_ne (by omega)]; exact he
        simp only [eF, aCons, aNil, eVar, e5, e0, Res.bind, a3]
      · rw [a4.ot L (by omega) (by omega)]; exact q3
      · have : acc.length = k := by rw [q4]; simpa [runD, sSeq, sRet, sIf, sSet, sEx, sSub, sNil, eVar, eC, eOp, eChain, tTruth, tBl, tNotM, tAndM, tOrM, eAndM, eOrM, eNotM, eIfM, aNil, aCons, eTup, eLst, mkLst, mkTup, eCB, eF, eSl, oPart, oNone, eUn, isB, truD, isiF, tyOf, subT, leD, ltD, gtD, geD, cmpD, lenF, lenN, neD, eqD, eqB, ofOpt, MM.keep, Res.bind, Res.toS, ixD, addD, subD, modD, fdivD, intF, List.replicate, setD, negD, mulD, sizeLine] using q5
        have : (64 : Nat) < sizeLine := by decide
        omega
      · refine ⟨(q1.trans a4).setO (by omega) (by omega) _, by simp [runD, sSeq, sRet, sIf, sSet, sEx, sSub, sNil, eVar, eC, eOp, eChain, tTruth, tBl, tNotM, tAndM, tOrM, eAndM, eOrM, eNotM, eIfM, aNil, aCons, eTup, eLst, mkLst, mkTup, eCB, eF, eSl, oPart, oNone, eUn, isB, truD, isiF, tyOf, subT, leD, ltD, gtD, geD, cmpD, lenF, lenN, neD, eqD, eqB, ofOpt, MM.keep, Res.bind, Res.toS, ixD, addD, subD, modD, fdivD, intF, List.replicate, setD, negD, mulD, sizeLine, a5, q2], MH.get_set_same _ _ _, ds ++ [r], by simp [runD, sSeq, sRet, sIf, sSet, sEx, sSub, sNil, eVar, eC, eOp, eChain, tTruth, tBl, tNotM, tAndM, tOrM, eAndM, eOrM, eNotM, eIfM, aNil, aCons, eTup, eLst, mkLst, mkTup, eCB, eF, eSl, oPart, oNone, eUn, isB, truD, isiF, tyOf, subT, leD, ltD, gtD, geD, cmpD, lenF, lenN, neD, eqD, eqB, ofOpt, MM.keep, Res.bind, Res.toS, ixD, addD, subD, modD, fdivD, intF, List.replicate, setD, negD, mulD, sizeLine, q4], by simp [runD, sSeq, sRet, sIf, sSet, sEx, sSub, sNil, eVar, eC, eOp, eChain, tTruth, tBl, tNotM, tAndM, tOrM, eAndM, eOrM, eNotM, eIfM, aNil, aCons, eTup, eLst, mkLst, mkTup, eCB, eF, eSl, oPart, oNone, eUn, isB, truD, isiF, tyOf, subT, leD, ltD, gtD, geD, cmpD, lenF, lenN, neD, eqD, eqB, ofOpt, MM.keep, Res.bind, Res.toS, ixD, addD, subD, modD, fdivD, intF, List.replicate, setD, negD, mulD, sizeLine, q5], fun j h1 h2 => ?_⟩
        by_cases hj : j < ds.length
        · rw [List.getElem_append_left hj]; exact q6 j hj h2
        · have : j = ds.length := by simp [runD, sSeq, sRet, sIf, sSet, sEx, sSub, sNil, eVar, eC, eOp, eChain, tTruth, tBl, tNotM, tAndM, tOrM, eAndM, eOrM, eNotM, eIfM, aNil, aCons, eTup, eLst, mkLst, mkTup, eCB, eF, eSl, oPart, oNone, eUn, isB, truD, isiF, tyOf, subT, leD, ltD, gtD, geD, cmpD, lenF, lenN, neD, eqD, eqB, ofOpt, MM.keep, Res.bind, Res.toS, ixD, addD, subD, modD, fdivD, intF, List.replicate, setD, negD, mulD, sizeLine] at h1; omega
          subst this
          rw [List.getElem_append_right (Nat.le_refl _)]
          simp [runD, sSeq, sRet, sIf, sSet, sEx, sSub, sNil, eVar, eC, eOp, eChain, tTruth, tBl, tNotM, tAndM, tOrM, eAndM, eOrM, eNotM, eIfM, aNil, aCons, eTup, eLst, mkLst, mkTup, eCB, eF, eSl, oPart, oNone, eUn, isB, truD, isiF, tyOf, subT, leD, ltD, gtD, geD, cmpD, lenF, lenN, neD, eqD, eqB, ofOpt, MM.keep, Res.bind, Res.toS, ixD, addD, subD, modD, fdivD, intF, List.replicate, setD, negD, mulD, sizeLine]
          subst q5
          exact ⟨a1, a2⟩)
    (fun _ _ _ => rfl)
  obtain ⟨q1, q2, q3, ds, q4, q5, q6⟩ := q
  exact ⟨ds, h', e, q1, q2, by rw [q3, q4], by simpa [runD, sSeq, sRet, sIf, sSet, sEx, sSub, sNil, eVar, eC, eOp, eChain, tTruth, tBl, tNotM, tAndM, tOrM, eAndM, eOrM, eNotM, eIfM, aNil, aCons, eTup, eLst, mkLst, mkTup, eCB, eF, eSl, oPart, oNone, eUn, isB, truD, isiF, tyOf, subT, leD, ltD, gtD, geD, cmpD, lenF, lenN, neD, eqD, eqB, ofOpt, MM.keep, Res.bind, Res.toS, ixD, addD, subD, modD, fdivD, intF, List.replicate, setD, negD, mulD, sizeLine, MI.n] using q5, q6⟩
theorem state {i : Nat} {bs : List Int} (hb : bs.length ≤ 64) (h2 : ∀ b ∈ bs, 1 ≤ b ∧ b ≤ 64) (h : MH) (f : Fd i h h) : ∃ (ds : List Int) (h' : MH), m__law_state [.ref i, .tup (bs.map .int)] h = .ok (.tup (ds.map .int)) h' ∧ Fd i h h' ∧ ds.length = bs.length ∧ (∀ k (h1 : k < ds.length) (h2 : k < bs.length), 0 ≤ ds[k] ∧ ds[k] < bs[k]) := by
  obtain ⟨ds, h1, e1, f1, n1, g1, l1, s1⟩ := digits hb h2 (env := [some (.ref i), some (.tup (bs.map .int)), none]) (s := 2) rfl (by decide) (by simp [runD, sSeq, sRet, sIf, sSet, sEx, sSub, sNil, eVar, eC, eOp, eChain, tTruth, tBl, tNotM, tAndM, tOrM, eAndM, eOrM, eNotM, eIfM, aNil, aCons, eTup, eLst, mkLst, mkTup, eCB, eF, eSl, oPart, oNone, eUn, isB, truD, isiF, tyOf, subT, leD, ltD, gtD, geD, cmpD, lenF, lenN, neD, eqD, eqB, ofOpt, MM.keep, Res.bind, Res.toS, ixD, addD, subD, modD, fdivD, intF, List.replicate, setD, negD, mulD, sizeLine]) h rfl f
  have sq := MH.seq_lst g1
  refine ⟨ds, h1, ?_, f1, l1, s1⟩
  unfold m__law_state b__law_state
  simp [runD, sSeq, sRet, sIf, sSet, sEx, sSub, sNil, eVar, eC, eOp, eChain, tTruth, tBl, tNotM, tAndM, tOrM, eAndM, eOrM, eNotM, eIfM, aNil, aCons, eTup, eLst, mkLst, mkTup, eCB, eF, eSl, oPart, oNone, eUn, isB, truD, isiF, tyOf, subT, leD, ltD, gtD, geD, cmpD, lenF, lenN, neD, eqD, eqB, ofOpt, MM.keep, Res.bind, Res.toS, ixD, addD, subD, modD, fdivD, intF, List.replicate, setD, negD, mulD, sizeLine, eLc, iSeq, wipeE, e1, tupleF, sq]
end MF


set_option Elab.async false
set_option linter.all false
set_option maxRecDepth 100000
set_option maxHeartbeats 4000000
namespace K03
open PySem PySem.Spec PyProof.Rows L2 MM
def b_loses : Ms :=
  (sSeq (sSet 2 (eOp ixD (eVar 1) (eC (.int (0)))))
    (sSeq (sIf (tBl (eOp eqD (eOp ixD (eVar 2) (eC (.int (0)))) (eC (.str (Str.ofString "scale"))))) (sRet (eOp gtD (eCB gcdF
      (aCons (eOp ixD (eVar 2) (eC (.int (2)))) (aCons (eOp ixD (eVar 0) (eOp ixD (eVar 2) (eC (.int (1))))) aNil))) (eC (.int (1))))) sNil)
    (sRet (eOp inD (eOp ixD (eVar 2)
      (eC (.int (0)))) (eTup (aCons (eC (.str (Str.ofString "set"))) (aCons (eC (.str (Str.ofString "copy"))) aNil)))))))
def m_loses : Fn := runD 3 b_loses
def c_loses : Fn := loc m_loses
def b__new_digit : Ms :=
  (sSeq (sPar 2 3 (aCons (eOp ixD (eVar 0) (eC (.int (0)))) (aCons (eOp ixD (eVar 0) (eC (.int (1)))) aNil)))
    (sSeq (sIf (tBl (eOp eqD (eVar 2) (eC (.str (Str.ofString "add")))))
      (sRet (eOp addD (eOp ixD (eVar 1) (eVar 3)) (eOp ixD (eVar 0) (eC (.int (2)))))) sNil)
    (sSeq (sIf (tBl (eOp eqD (eVar 2) (eC (.str (Str.ofString "mix"))))) (sRet (eOp
      addD (eOp ixD (eVar 1) (eVar 3)) (eOp mulD (eOp ixD (eVar 0) (eC (.int (3)))) (eOp ixD (eVar 1) (eOp ixD (eVar 0) (eC (.int (2)))))))) sNil)
    (sSeq (sIf (tBl (eOp eqD
      (eVar 2) (eC (.str (Str.ofString "scale"))))) (sRet (eOp mulD (eOp ixD (eVar 1) (eVar 3)) (eOp ixD (eVar 0) (eC (.int (2)))))) sNil)
    (sSeq (sIf (tBl (eOp eqD (eVar 2) (eC
      (.str (Str.ofString "set"))))) (sRet (eOp ixD (eVar 0) (eC (.int (2))))) sNil)
    (sRet (eOp ixD (eVar 1) (eOp ixD (eVar 0) (eC (.int (2)))))))))))
def m__new_digit : Fn := runD 4 b__new_digit
def b_done : Ms :=
  (sSeq (sAsg (.tp [(.nm 3), (.nm 4)]) (eVar 1))
    (sSeq (sIf (tNotM (tTruth (eCB allF (aCons (eLc (iSeq (eVar 4)) (.tp [(.nm 7), (.nm 8)]) tYesM (eOp eqD (eOp ixD (eVar 2) (eVar
      7)) (eVar 8)) [7, 8]) aNil)))) (sRet (eVar 2)) sNil)
    (sSeq (sSet 5 (eOp ixD (eVar 3) (eC (.int (1)))))
    (sSeq (sSet 6 (eCB listF (aCons (eVar 2) aNil)))
    (sSeq
      (sSub (eVar 6) (eVar 5) (eOp modD (eF m__new_digit (aCons (eVar 3) (aCons (eVar 2) aNil))) (eOp ixD (eVar 0) (eVar 5))))
    (sSeq (sIf (tBl (eOp eqD (eOp ixD (eVar 3) (eC
      (.int (0)))) (eC (.str (Str.ofString "swap"))))) (sSub (eVar 6) (eOp ixD (eVar 3) (eC (.int (2)))) (eOp ixD (eVar 2) (eVar 5))) sNil)
    (sRet (eCB tupleF (aCons (eVar 6)
      aNil)))))))))
def m_done : Fn := runD 9 b_done
def c_done : Fn := loc m_done
def b__law_typed_right : Ms :=
  (sSeq (sSet 0 (eLst (aCons (eTup (aCons (eTup (aCons (eC (.int (4))) (aCons (eC (.int (2))) aNil))) (aCons (eTup (aCons (eTup (aCons (eC (.str (Str.ofString "mix"))) (aCons (eC
      (.int (0))) (aCons (eC (.int (1))) (aCons (eC (.int (3))) aNil))))) (aCons (eTup aNil) aNil))) (aCons (eTup (aCons (eC (.int (2))) (aCons (eC (.int (1))) aNil))) (aCons (eTup
      (aCons (eC (.int (1))) (aCons (eC (.int (1))) aNil))) aNil))))) (aCons (eTup (aCons (eTup (aCons (eC (.int (4))) (aCons (eC (.int (2))) aNil))) (aCons (eTup (aCons (eTup
      (aCons (eC (.str (Str.ofString "mix"))) (aCons (eC (.int (0))) (aCons (eC (.int (1))) (aCons (eC (.int (3))) aNil))))) (aCons (eTup (aCons (eTup (aCons (eC (.int (1))) (aCons
      (eC (.int (1))) aNil))) aNil)) aNil))) (aCons (eTup (aCons (eC (.int (2))) (aCons (eC (.int (1))) aNil))) (aCons (eTup (aCons (eC (.int (1))) (aCons (eC (.int (1))) aNil)))
      aNil))))) aNil))))
    (sSeq (sEx (eApp (eVar 0) (aCons (eTup (aCons (eTup (aCons (eC (.int (4))) (aCons (eC (.int (2))) aNil))) (aCons (eTup (aCons (eTup (aCons (eC (.str
      (Str.ofString "mix"))) (aCons (eC (.int (0))) (aCons (eC (.int (1))) (aCons (eC (.int (3))) aNil))))) (aCons (eTup (aCons (eTup (aCons (eC (.int (1))) (aCons (eC (.int (0)))
      aNil))) aNil)) aNil))) (aCons (eTup (aCons (eC (.int (2))) (aCons (eC (.int (1))) aNil))) (aCons (eTup (aCons (eC (.int (2))) (aCons (eC (.int (1))) aNil))) aNil)))))
      aNil)))
    (sSeq (sEx (eApp (eVar 0) (aCons (eTup (aCons (eTup (aCons (eC (.int (2))) (aCons (eC (.int (5))) aNil))) (aCons (eTup (aCons (eTup (aCons (eC (.str (Str.ofString
      "mix"))) (aCons (eC (.int (0))) (aCons (eC (.int (1))) (aCons (eC (.int (1))) aNil))))) (aCons (eTup aNil) aNil))) (aCons (eTup (aCons (eC (.int (1))) (aCons (eC (.int (4)))
      aNil))) (aCons (eTup (aCons (eC (.int (1))) (aCons (eC (.int (4))) aNil))) aNil))))) aNil)))
    (sSeq (sEx (eApp (eVar 0) (aCons (eTup (aCons (eTup (aCons (eC (.int (2)))
      (aCons (eC (.int (5))) aNil))) (aCons (eTup (aCons (eTup (aCons (eC (.str (Str.ofString "copy"))) (aCons (eC (.int (0))) (aCons (eC (.int (1))) aNil)))) (aCons (eTup aNil)
      aNil))) (aCons (eTup (aCons (eC (.int (1))) (aCons (eC (.int (4))) aNil))) (aCons (eTup (aCons (eC (.int (0))) (aCons (eC (.int (4))) aNil))) aNil))))) aNil)))
    (sSeq (sEx
      (eApp (eVar 0) (aCons (eTup (aCons (eTup (aCons (eC (.int (3))) (aCons (eC (.int (2))) (aCons (eC (.int (3))) aNil)))) (aCons (eTup (aCons (eTup (aCons (eC (.str
      (Str.ofString "swap"))) (aCons (eC (.int (0))) (aCons (eC (.int (2))) aNil)))) (aCons (eTup (aCons (eTup (aCons (eC (.int (1))) (aCons (eC (.int (1))) aNil))) aNil)) aNil)))
      (aCons (eTup (aCons (eC (.int (0))) (aCons (eC (.int (1))) (aCons (eC (.int (2))) aNil)))) (aCons (eTup (aCons (eC (.int (2))) (aCons (eC (.int (1))) (aCons (eC (.int (0)))
      aNil)))) aNil))))) aNil)))
    (sSeq (sEx (eApp (eVar 0) (aCons (eTup (aCons (eTup (aCons (eC (.int (6))) aNil)) (aCons (eTup (aCons (eTup (aCons (eC (.str (Str.ofString
      "scale"))) (aCons (eC (.int (0))) (aCons (eC (.int (4))) aNil)))) (aCons (eTup aNil) aNil))) (aCons (eTup (aCons (eC (.int (5))) aNil)) (aCons (eTup (aCons (eC (.int (2)))
      aNil)) aNil))))) aNil)))
    (sSeq (sEx (eApp (eVar 0) (aCons (eTup (aCons (eTup (aCons (eC (.int (64))) aNil)) (aCons (eTup (aCons (eTup (aCons (eC (.str (Str.ofString
      "add"))) (aCons (eC (.int (0))) (aCons (eC (.int (63))) aNil)))) (aCons (eTup aNil) aNil))) (aCons (eTup (aCons (eC (.int (1))) aNil)) (aCons (eTup (aCons (eC (.int (0)))
      aNil)) aNil))))) aNil)))
    (sSeq (sEx (eApp (eVar 0) (aCons (eTup (aCons (eTup (aCons (eC (.int (2))) (aCons (eC (.int (2))) (aCons (eC (.int (2))) aNil)))) (aCons (eTup
      (aCons (eTup (aCons (eC (.str (Str.ofString "set"))) (aCons (eC (.int (1))) (aCons (eC (.int (1))) aNil)))) (aCons (eTup (aCons (eTup (aCons (eC (.int (0))) (aCons (eC (.int
      (1))) aNil))) (aCons (eTup (aCons (eC (.int (2))) (aCons (eC (.int (0))) aNil))) aNil))) aNil))) (aCons (eTup (aCons (eC (.int (1))) (aCons (eC (.int (0))) (aCons (eC (.int
      (1))) aNil)))) (aCons (eTup (aCons (eC (.int (1))) (aCons (eC (.int (0))) (aCons (eC (.int (1))) aNil)))) aNil))))) aNil)))
    (sSeq (sEx (eApp (eVar 0) (aCons (eTup (aCons
      (eTup (aCons (eC (.int (2))) (aCons (eC (.int (2))) (aCons (eC (.int (2))) aNil)))) (aCons (eTup (aCons (eTup (aCons (eC (.str (Str.ofString "set"))) (aCons (eC (.int (1)))
      (aCons (eC (.int (1))) aNil)))) (aCons (eTup (aCons (eTup (aCons (eC (.int (0))) (aCons (eC (.int (1))) aNil))) (aCons (eTup (aCons (eC (.int (2))) (aCons (eC (.int (0)))
      aNil))) aNil))) aNil))) (aCons (eTup (aCons (eC (.int (1))) (aCons (eC (.int (0))) (aCons (eC (.int (0))) aNil)))) (aCons (eTup (aCons (eC (.int (1))) (aCons (eC (.int (1)))
      (aCons (eC (.int (0))) aNil)))) aNil))))) aNil)))
    (sSeq (sFor (iSeq (eVar 0)) (.tp [(.nm 1), (.nm 2), (.nm 3), (.nm 4)]) (sIf (tBl (eOp neD (eCB reprF (aCons (eF c_done
      (aCons (eVar 1) (aCons (eVar 2) (aCons (eVar 3) aNil)))) aNil)) (eCB reprF (aCons (eVar 4) aNil)))) (sRet (eC (.bl false))) sNil))
    (sSeq (sSet 5 (eLc (iRng1M (aCons (eC
      (.int (12))) aNil)) (.nm 6) tYesM (eTup (aCons (eTup (aCons (eC (.str (Str.ofString "scale"))) (aCons (eC (.int (0))) (aCons (eVar 6) aNil)))) (aCons (eTup aNil) aNil)))
      [6]))
    (sRet (eOp eqD (eLc (iSeq (eVar 5)) (.nm 2) tYesM (eF c_loses (aCons (eTup (aCons (eC (.int (12))) aNil)) (aCons (eVar 2) aNil))) [2]) (eLc (iRng1M (aCons (eC (.int
      (12))) aNil)) (.nm 6) tYesM (eOp notInD (eVar 6) (eTup (aCons (eC (.int (1))) (aCons (eC (.int (5))) (aCons (eC (.int (7))) (aCons (eC (.int (11))) aNil))))))
      [6]))))))))))))))
def m__law_typed_right : Fn := runD 7 b__law_typed_right
def c__law_typed_right : Fn := loc m__law_typed_right
def b__law_feed : Ms :=
  (sSeq (sSet 2 (eIfM (tBl (eOp ltD (eVar 1) (eCB lenF (aCons (eVar 0) aNil)))) (eOp ixD (eVar 0) (eVar 1)) (eOp addD (eOp mulD (eC (.int (83))) (eVar 1)) (eC (.int (29))))))
   
      (sSeq (sSet 3 (eCB maxF (aCons (eC (.int (0))) (aCons (eOp subD (eCB absF (aCons (eVar 2) aNil)) (eOp powD (eC (.int (10))) (eC (.int (18))))) aNil))))
    (sSeq (sSet 4 (eOp
      modD (eCB intF (aCons (eOp addD (eOp addD (eOp mulD (eVar 2) (eC (.int (6364136223846793005)))) (eOp mulD (eC (.int (7919))) (eVar 1))) (eC (.int (1442695040888963407))))
      aNil)) (eC (.int (2305843009213693951)))))
    (sRet (eLst (aCons (eVar 3) (aCons (eVar 4) aNil)))))))
def m__law_feed : Fn := runD 5 b__law_feed
def b__law_take : Ms :=
  (sSeq (sIf (tBl (eOp gtD (eOp ixD (eVar 0) (eC (.int (0)))) (eC (.int (0))))) (sSeq (sSet 2 (eOp modD (eCB intF (aCons (eOp ixD (eVar 0) (eC (.int (0)))) aNil)) (eVar 1)))
   
      (sSeq (sSub (eVar 0) (eC (.int (0))) (eOp fdivD (eOp ixD (eVar 0) (eC (.int (0)))) (eVar 1)))
    (sRet (eVar 2)))) sNil)
    (sSeq (sSub (eVar 0) (eC (.int (1))) (eOp modD
      (eCB intF (aCons (eOp addD (eOp mulD (eOp ixD (eVar 0) (eC (.int (1)))) (eC (.int (6364136223846793005)))) (eC (.int (1442695040888963407)))) aNil)) (eC (.int
      (2305843009213693951)))))
    (sRet (eOp modD (eCB intF (aCons (eOp fdivD (eOp ixD (eVar 0) (eC (.int (1)))) (eC (.int (65536)))) aNil)) (eVar 1)))))
def m__law_take : Fn := runD 3 b__law_take
def b__law_pick : Ms :=
  (sRet (eOp ixD (eVar 1) (eF m__law_take (aCons (eVar 0) (aCons (eCB lenF (aCons (eVar 1) aNil)) aNil)))))
def m__law_pick : Fn := runD 2 b__law_pick
def b__law_shape : Ms :=
  (sRet (eF m__law_pick (aCons (eVar 0) (aCons (eLst (aCons (eTup (aCons (eC (.int (2))) (aCons (eC (.int (2))) aNil))) (aCons (eTup (aCons (eC (.int (2))) aNil)) (aCons (eTup (aCons
      (eC (.int (3))) (aCons (eC (.int (2))) aNil))) (aCons (eTup (aCons (eC (.int (2))) (aCons (eC (.int (2))) (aCons (eC (.int (2))) aNil)))) (aCons (eTup (aCons (eC (.int (4)))
      (aCons (eC (.int (2))) aNil))) (aCons (eTup (aCons (eC (.int (3))) (aCons (eC (.int (3))) aNil))) (aCons (eTup (aCons (eC (.int (4))) (aCons (eC (.int (3))) aNil))) (aCons
      (eTup (aCons (eC (.int (2))) (aCons (eC (.int (3))) (aCons (eC (.int (2))) aNil)))) (aCons (eTup (aCons (eC (.int (5))) aNil)) (aCons (eTup (aCons (eC (.int (2))) (aCons (eC
      (.int (2))) (aCons (eC (.int (2))) (aCons (eC (.int (2))) aNil))))) aNil))))))))))) aNil))))
def m__law_shape : Fn := runD 1 b__law_shape
def b__law_action : Ms :=
  (sSeq (sAsg (.tp [(.nm 4), (.nm 5)]) (eTup (aCons (eOp ixD (eVar 1) (eVar 3)) (aCons (eLc (iRng1M (aCons (eCB lenF (aCons (eVar 1) aNil)) aNil)) (.nm 8) (tBl (eOp neD (eVar 8)
      (eVar 3))) (eVar 8) [8]) aNil))))
    (sSeq (sIf (tBl (eOp eqD (eVar 2) (eC (.str (Str.ofString "scale"))))) (sSeq (sSet 6 (eDct [((eC (.int (3))), (eLst (aCons (eC (.int
      (1))) (aCons (eC (.int (2))) aNil)))), ((eC (.int (4))), (eLst (aCons (eC (.int (1))) (aCons (eC (.int (3))) aNil)))), ((eC (.int (5))), (eLst (aCons (eC (.int (2))) (aCons
      (eC (.int (3))) (aCons (eC (.int (4))) aNil)))))]))
    (sRet (eTup (aCons (eVar 2) (aCons (eVar 3) (aCons (eF m__law_pick (aCons (eVar 0) (aCons (eGet2 (eVar 6) (eVar 4)
      (eLst (aCons (eC (.int (1))) aNil))) aNil))) aNil)))))) sNil)
    (sSeq (sIf (tBl (eOp eqD (eVar 2) (eC (.str (Str.ofString "swap"))))) (sSeq (sSet 5 (eLc (iSeq (eVar 5))
      (.nm 8) (tBl (eOp eqD (eOp ixD (eVar 1) (eVar 8)) (eVar 4))) (eVar 8) [8]))
    (sRet (eIfM (tBl (eOp neD (eVar 5) (eLst aNil))) (eTup (aCons (eVar 2) (aCons (eVar 3) (aCons
      (eF m__law_pick (aCons (eVar 0) (aCons (eVar 5) aNil))) aNil)))) (eTup (aCons (eC (.str (Str.ofString "add"))) (aCons (eVar 3) (aCons (eC (.int (1))) aNil))))))) sNil)
   
      (sSeq (sIf (tAndM (tBl (eOp inD (eVar 2) (eTup (aCons (eC (.str (Str.ofString "mix"))) (aCons (eC (.str (Str.ofString "copy"))) aNil))))) (tBl (eOp neD (eVar 5) (eLst
      aNil)))) (sSeq (sSet 7 (eTup (aCons (eVar 2) (aCons (eVar 3) (aCons (eF m__law_pick (aCons (eVar 0) (aCons (eVar 5) aNil))) aNil)))))
    (sRet (eIfM (tBl (eOp eqD (eVar 2)
      (eC (.str (Str.ofString "mix"))))) (eOp addD (eVar 7) (eTup (aCons (eOp addD (eC (.int (1))) (eF m__law_take (aCons (eVar 0) (aCons (eOp subD (eVar 4) (eC (.int (1))))
      aNil)))) aNil))) (eVar 7)))) sNil)
    (sSeq (sIf (tBl (eOp inD (eVar 2) (eTup (aCons (eC (.str (Str.ofString "mix"))) (aCons (eC (.str (Str.ofString "copy"))) aNil)))))
      (sSet 2 (eIfM (tBl (eOp eqD (eVar 2) (eC (.str (Str.ofString "mix"))))) (eC (.str (Str.ofString "add"))) (eC (.str (Str.ofString "set"))))) sNil)
    (sRet (eTup (aCons (eVar
      2) (aCons (eVar 3) (aCons (eF m__law_take (aCons (eVar 0) (aCons (eVar 4) aNil))) aNil))))))))))
def m__law_action : Fn := runD 9 b__law_action
def b__law_conditions : Ms :=
  (sSeq (sPar 3 4 (aCons (eLc (iRng1M (aCons (eCB lenF (aCons (eVar 1) aNil)) aNil)) (.nm 6) (tBl (eOp notInD (eVar 6) (eVar 2))) (eVar 6) [6]) (aCons (eLst aNil) aNil)))
    (sSeq
      (sFor (iRng1M (aCons (eF m__law_pick (aCons (eVar 0) (aCons (eLst (aCons (eC (.int (0))) (aCons (eC (.int (0))) (aCons (eC (.int (1))) (aCons (eC (.int (1))) (aCons (eC (.int
      (2))) (aCons (eCB lenF (aCons (eVar 1) aNil)) aNil))))))) aNil))) aNil)) (.nm 5) (sIf (tBl (eOp neD (eVar 3) (eLst aNil))) (sSeq (sSet 6 (ePop (eVar 3) (aCons (eF m__law_take
      (aCons (eVar 0) (aCons (eCB lenF (aCons (eVar 3) aNil)) aNil))) aNil)))
    (sEx (eApp (eVar 4) (aCons (eTup (aCons (eVar 6) (aCons (eF m__law_take (aCons (eVar 0) (aCons
      (eOp ixD (eVar 1) (eVar 6)) aNil))) aNil))) aNil)))) sNil))
    (sRet (eCB tupleF (aCons (eCB sortedF (aCons (eVar 4) aNil)) aNil)))))
def m__law_conditions : Fn := runD 7 b__law_conditions
def b__law_row : Ms :=
  (sSeq (sSet 3 (eF m__law_action (aCons (eVar 0) (aCons (eVar 1) (aCons (eF m__law_pick (aCons (eVar 0) (aCons (eVar 2) aNil))) (aCons (eF m__law_take (aCons (eVar 0) (aCons (eCB
      lenF (aCons (eVar 1) aNil)) aNil))) aNil))))))
    (sSeq (sSet 4 (eIfM (tBl (eOp eqD (eOp ixD (eVar 3) (eC (.int (0)))) (eC (.str (Str.ofString "swap"))))) (eLst (aCons (eOp
      ixD (eVar 3) (eC (.int (1)))) (aCons (eOp ixD (eVar 3) (eC (.int (2)))) aNil))) (eLst (aCons (eOp ixD (eVar 3) (eC (.int (1)))) aNil))))
    (sRet (eTup (aCons (eVar 3)
      (aCons (eF m__law_conditions (aCons (eVar 0) (aCons (eVar 1) (aCons (eVar 4) aNil)))) aNil))))))
def m__law_row : Fn := runD 5 b__law_row
def b__law_state : Ms :=
  (sRet (eCB tupleF (aCons (eLc (iSeq (eVar 1)) (.nm 2) tYesM (eF m__law_take (aCons (eVar 0) (aCons (eVar 2) aNil))) [2]) aNil)))
def m__law_state : Fn := runD 3 b__law_state
def b__law_act : Ms :=
  (sSeq (sAsg (.tp [(.nm 3), (.nm 4)]) (eVar 1))
    (sSeq (sFor (iSeq (eVar 4)) (.tp [(.nm 5), (.nm 6)]) (sIf (tBl (eOp neD (eOp ixD (eVar 2) (eVar 5)) (eVar 6))) (sRet (eVar 2))
      sNil))
    (sSeq (sPar 7 8 (aCons (eCB listF (aCons (eVar 2) aNil)) (aCons (eOp ixD (eVar 3) (eC (.int (1)))) aNil)))
    (sSeq (sIf (tBl (eOp eqD (eOp ixD (eVar 3) (eC (.int
      (0)))) (eC (.str (Str.ofString "swap"))))) (sSeq (sSub (eVar 7) (eVar 8) (eOp ixD (eVar 2) (eOp ixD (eVar 3) (eC (.int (2))))))
    (sSeq (sSub (eVar 7) (eOp ixD (eVar 3) (eC
      (.int (2)))) (eOp ixD (eVar 2) (eVar 8)))
    (sRet (eCB tupleF (aCons (eVar 7) aNil))))) sNil)
    (sSeq (sSet 9 (eOp ixD2 (eDct [((eC (.str (Str.ofString "add"))), (eOp ixD
      (eVar 2) (eVar 8))), ((eC (.str (Str.ofString "scale"))), (eC (.int (0)))), ((eC (.str (Str.ofString "set"))), (eC (.int (0)))), ((eC (.str (Str.ofString "mix"))), (eOp ixD
      (eVar 2) (eVar 8))), ((eC (.str (Str.ofString "copy"))), (eC (.int (0))))]) (eOp ixD (eVar 3) (eC (.int (0))))))
    (sSeq (sIf (tBl (eOp inD (eOp ixD (eVar 3) (eC (.int
      (0)))) (eTup (aCons (eC (.str (Str.ofString "add"))) (aCons (eC (.str (Str.ofString "set"))) aNil))))) (sSet 9 (eOp addD (eVar 9) (eOp ixD (eVar 3) (eC (.int (2)))))) (sIf
      (tBl (eOp eqD (eOp ixD (eVar 3) (eC (.int (0)))) (eC (.str (Str.ofString "scale"))))) (sSet 9 (eOp mulD (eOp ixD (eVar 2) (eVar 8)) (eOp ixD (eVar 3) (eC (.int (2)))))) (sSet
      9 (eOp addD (eVar 9) (eOp mulD (eOp ixD (eVar 2) (eOp ixD (eVar 3) (eC (.int (2))))) (eIfM (tBl (eOp eqD (eOp ixD (eVar 3) (eC (.int (0)))) (eC (.str (Str.ofString "mix")))))
      (eOp ixD (eVar 3) (eC (.int (3)))) (eC (.int (1)))))))))
    (sSeq (sSub (eVar 7) (eVar 8) (eOp modD (eCB intF (aCons (eVar 9) aNil)) (eOp ixD (eVar 0) (eVar 8))))
    (sRet
      (eCB tupleF (aCons (eVar 7) aNil))))))))))
def m__law_act : Fn := runD 10 b__law_act
def c__law_act : Fn := loc m__law_act
def b__law_divides : Ms :=
  (sRet (eOp neD (eLc (iRng2M (aCons (eC (.int (2))) (aCons (eOp addD (eVar 0) (eC (.int (1)))) aNil))) (.nm 2) (tAndM (tBl (eOp eqD (eOp modD (eCB intF (aCons (eVar 0) aNil)) (eVar
      2)) (eC (.int (0))))) (tBl (eOp eqD (eOp modD (eCB intF (aCons (eVar 1) aNil)) (eVar 2)) (eC (.int (0)))))) (eVar 2) [2]) (eLst aNil)))
def m__law_divides : Fn := runD 3 b__law_divides
def c__law_divides : Fn := loc m__law_divides
def b__law_loses : Ms :=
  (sSeq (sSet 2 (eOp ixD (eVar 1) (eC (.int (0)))))
    (sSeq (sIf (tBl (eOp eqD (eOp ixD (eVar 2) (eC (.int (0)))) (eC (.str (Str.ofString "scale"))))) (sRet (eF c__law_divides
      (aCons (eOp ixD (eVar 0) (eOp ixD (eVar 2) (eC (.int (1))))) (aCons (eOp ixD (eVar 2) (eC (.int (2)))) aNil)))) sNil)
    (sRet (eOp inD (eOp ixD (eVar 2) (eC (.int (0))))
      (eTup (aCons (eC (.str (Str.ofString "set"))) (aCons (eC (.str (Str.ofString "copy"))) aNil)))))))
def m__law_loses : Fn := runD 3 b__law_loses
def c__law_loses : Fn := loc m__law_loses
def s_law_0 : Ms :=
  (sRet (eC (.bl false)))
def s_law_1 : Ms :=
  (sSet 8 (eF m__law_take (aCons (eVar 3) (aCons (eCB lenF (aCons (eVar 4) aNil)) aNil))))
def s_law_2 : Ms :=
  (sSet 6 (eTup (aCons (eTup (aCons (eC (.str (Str.ofString "scale"))) (aCons (eVar 8) (aCons (eF m__law_take (aCons (eVar 3) (aCons (eOp ixD (eVar 4) (eVar 8)) aNil))) aNil))))
      (aCons (eTup aNil) aNil))))
def s_law_3 : Ms :=
  (sRet (eC (.bl false)))
def s_law_4 : Ms :=
  (sRet (eC (.bl false)))
def s_law_5 : Ms :=
  (sPar 6 7 (aCons (eF m__law_row (aCons (eVar 3) (aCons (eVar 4) (aCons (eVar 1) aNil)))) (aCons (eF m__law_state (aCons (eVar 3) (aCons (eVar 4) aNil))) aNil)))
def s_law_6 : Ms :=
  (sIf (tBl (eOp eqD (eF m__law_take (aCons (eVar 3) (aCons (eC (.int (5))) aNil))) (eC (.int (0))))) (sSeq s_law_1
    s_law_2) sNil)
def s_law_7 : Ms :=
  (sSet 9 (eCB reprF (aCons (eLst (aCons (eVar 4) (aCons (eVar 6) (aCons (eVar 7) aNil)))) aNil)))
def s_law_8 : Ms :=
  (sIf (tBl (eOp neD (eCB reprF (aCons (eF c_done (aCons (eVar 4) (aCons (eVar 6) (aCons (eVar 7) aNil)))) aNil)) (eCB reprF (aCons (eF c__law_act (aCons (eVar 4) (aCons (eVar 6)
      (aCons (eVar 7) aNil)))) aNil)))) s_law_3 sNil)
def s_law_9 : Ms :=
  (sIf (tOrM (tBl (eOp neD (eCB reprF (aCons (eF c_loses (aCons (eVar 4) (aCons (eVar 6) aNil))) aNil)) (eCB reprF (aCons (eF c__law_loses (aCons (eVar 4) (aCons (eVar 6) aNil)))
      aNil)))) (tBl (eOp neD (eCB reprF (aCons (eLst (aCons (eVar 4) (aCons (eVar 6) (aCons (eVar 7) aNil)))) aNil)) (eVar 9)))) s_law_4 sNil)
def l_law_10 : Ms :=
  (sSeq s_law_5
    (sSeq s_law_6
    (sSeq s_law_7
    (sSeq s_law_8
    s_law_9))))
def s_law_11 : Ms :=
  (sSet 3 (eF m__law_feed (aCons (eVar 0) (aCons (eVar 2) aNil))))
def s_law_12 : Ms :=
  (sSet 4 (eF m__law_pick (aCons (eVar 3) (aCons (eLst (aCons (eF m__law_shape (aCons (eVar 3) aNil)) (aCons (eTup (aCons (eC (.int (2))) (aCons (eC (.int (2))) (aCons (eC (.int
      (2))) (aCons (eC (.int (2))) (aCons (eC (.int (2))) aNil)))))) (aCons (eTup (aCons (eC (.int (2))) (aCons (eC (.int (3))) (aCons (eC (.int (2))) (aCons (eC (.int (2))) (aCons
      (eC (.int (2))) aNil)))))) (aCons (eOp mulD (eTup (aCons (eC (.int (2))) aNil)) (eC (.int (6)))) (aCons (eTup (aCons (eC (.int (4))) (aCons (eC (.int (2))) (aCons (eC (.int
      (2))) (aCons (eC (.int (2))) (aCons (eC (.int (2))) aNil)))))) aNil)))))) aNil))))
def s_law_13 : Ms :=
  (sFor (iRng1M (aCons (eC (.int (10))) aNil)) (.nm 5) l_law_10)
def l_law_14 : Ms :=
  (sSeq s_law_11
    (sSeq s_law_12
    s_law_13))
def s_law_15 : Ms :=
  (sIf (tNotM (tTruth (eF c__law_typed_right aNil))) s_law_0 sNil)
def s_law_16 : Ms :=
  (sSet 1 (eLst (aCons (eC (.str (Str.ofString "add"))) (aCons (eC (.str (Str.ofString "mix"))) (aCons (eC (.str (Str.ofString "mix"))) (aCons (eC (.str (Str.ofString "scale")))
      (aCons (eC (.str (Str.ofString "swap"))) (aCons (eC (.str (Str.ofString "set"))) (aCons (eC (.str (Str.ofString "copy"))) aNil)))))))))
def s_law_17 : Ms :=
  (sFor (iRng1M (aCons (eCB maxF (aCons (eC (.int (1))) (aCons (eCB minF (aCons (eC (.int (3))) (aCons (eCB lenF (aCons (eVar 0) aNil)) aNil))) aNil))) aNil)) (.nm 2) l_law_14)
def s_law_18 : Ms :=
  (sRet (eC (.bl true)))
def b_law : Ms :=
  (sSeq s_law_15
    (sSeq s_law_16
    (sSeq s_law_17
    s_law_18)))
def m_law : Fn := runD 10 b_law
end K03

set_option Elab.async false
set_option linter.all false
set_option maxRecDepth 100000
set_option maxHeartbeats 4000000
set_option autoImplicit false
namespace K03
open PySem PySem.Spec PyProof.Rows L2 MM
def isBl (k : Bool) : Res D → Bool
  | .ok (.bl b) _ => b == k
  | _ => false
theorem isBl_ok {k : Bool} {r : Res D} (h : isBl k r = true) : ∃ h', r = .ok (.bl k) h' := by
  unfold isBl at h
  split at h
  · exact ⟨_, by rw [eq_of_beq h]⟩
  · cases h
theorem typed : isBl true (m__law_typed_right [] MH.nil) = true := by decide +kernel
def divs : List (Int × Int) := [(2, 0), (2, 1), (3, 0), (3, 1), (3, 2), (4, 0), (4, 1), (4, 2), (4, 3), (5, 0), (5, 1), (5, 2), (5, 3), (5, 4)]
theorem div_all : divs.all (fun p => isBl (decide (1 < Nat.gcd p.2.natAbs p.1.natAbs)) (m__law_divides [.int p.1, .int p.2] MH.nil)) = true := by decide +kernel
theorem divides {b c : Int} (hb : 2 ≤ b ∧ b ≤ 5) (hc : 0 ≤ c ∧ c < b) (h : MH) : c__law_divides [.int b, .int c] h = .ok (.bl (decide (1 < Nat.gcd c.natAbs b.natAbs))) h := by
  have m : (b, c) ∈ divs := by
    obtain ⟨b1, b2⟩ := hb
    obtain ⟨c1, c2⟩ := hc
    have hbb : b = 2 ∨ b = 3 ∨ b = 4 ∨ b = 5 := by omega
    have hcc : c = 0 ∨ c = 1 ∨ c = 2 ∨ c = 3 ∨ c = 4 := by omega
    rcases hbb with rfl | rfl | rfl | rfl <;> rcases hcc with rfl | rfl | rfl | rfl | rfl <;> first | (exfalso; omega) | decide
  obtain ⟨h', e⟩ := isBl_ok (List.all_eq_true.mp div_all _ m)
  unfold c__law_divides loc
  simp [D.los, D.lo, e]
end K03

set_option Elab.async false
set_option linter.all false
set_option maxRecDepth 100000
set_option maxHeartbeats 4000000
set_option autoImplicit false
namespace K03
open PySem PySem.Spec PyProof.Rows L2 MM
theorem n_add_mix : (Str.ofString "add" = Str.ofString "mix") = False := by simp only [eq_iff_iff, iff_false]; decide +kernel
theorem n_add_scale : (Str.ofString "add" = Str.ofString "scale") = False := by simp only [eq_iff_iff, iff_false]; decide +kernel
theorem n_add_swap : (Str.ofString "add" = Str.ofString "swap") = False := by simp only [eq_iff_iff, iff_false]; decide +kernel
theorem n_add_set : (Str.ofString "add" = Str.ofString "set") = False := by simp only [eq_iff_iff, iff_false]; decide +kernel
theorem n_add_copy : (Str.ofString "add" = Str.ofString "copy") = False := by simp only [eq_iff_iff, iff_false]; decide +kernel
theorem n_mix_add : (Str.ofString "mix" = Str.ofString "add") = False := by simp only [eq_iff_iff, iff_false]; decide +kernel
theorem n_mix_scale : (Str.ofString "mix" = Str.ofString "scale") = False := by simp only [eq_iff_iff, iff_false]; decide +kernel
theorem n_mix_swap : (Str.ofString "mix" = Str.ofString "swap") = False := by simp only [eq_iff_iff, iff_false]; decide +kernel
theorem n_mix_set : (Str.ofString "mix" = Str.ofString "set") = False := by simp only [eq_iff_iff, iff_false]; decide +kernel
theorem n_mix_copy : (Str.ofString "mix" = Str.ofString "copy") = False := by simp only [eq_iff_iff, iff_false]; decide +kernel
theorem n_scale_add : (Str.ofString "scale" = Str.ofString "add") = False := by simp only [eq_iff_iff, iff_false]; decide +kernel
theorem n_scale_mix : (Str.ofString "scale" = Str.ofString "mix") = False := by simp only [eq_iff_iff, iff_false]; decide +kernel
theorem n_scale_swap : (Str.ofString "scale" = Str.ofString "swap") = False := by simp only [eq_iff_iff, iff_false]; decide +kernel
theorem n_scale_set : (Str.ofString "scale" = Str.ofString "set") = False := by simp only [eq_iff_iff, iff_false]; decide +kernel
theorem n_scale_copy : (Str.ofString "scale" = Str.ofString "copy") = False := by simp only [eq_iff_iff, iff_false]; decide +kernel
theorem n_swap_add : (Str.ofString "swap" = Str.ofString "add") = False := by simp only [eq_iff_iff, iff_false]; decide +kernel
theorem n_swap_mix : (Str.ofString "swap" = Str.ofString "mix") = False := by simp only [eq_iff_iff, iff_false]; decide +kernel
theorem n_swap_scale : (Str.ofString "swap" = Str.ofString "scale") = False := by simp only [eq_iff_iff, iff_false]; decide +kernel
theorem n_swap_set : (Str.ofString "swap" = Str.ofString "set") = False := by simp only [eq_iff_iff, iff_false]; decide +kernel
theorem n_swap_copy : (Str.ofString "swap" = Str.ofString "copy") = False := by simp only [eq_iff_iff, iff_false]; decide +kernel
theorem n_set_add : (Str.ofString "set" = Str.ofString "add") = False := by simp only [eq_iff_iff, iff_false]; decide +kernel
theorem n_set_mix : (Str.ofString "set" = Str.ofString "mix") = False := by simp only [eq_iff_iff, iff_false]; decide +kernel
theorem n_set_scale : (Str.ofString "set" = Str.ofString "scale") = False := by simp only [eq_iff_iff, iff_false]; decide +kernel
theorem n_set_swap : (Str.ofString "set" = Str.ofString "swap") = False := by simp only [eq_iff_iff, iff_false]; decide +kernel
theorem n_set_copy : (Str.ofString "set" = Str.ofString "copy") = False := by simp only [eq_iff_iff, iff_false]; decide +kernel
theorem n_copy_add : (Str.ofString "copy" = Str.ofString "add") = False := by simp only [eq_iff_iff, iff_false]; decide +kernel
theorem n_copy_mix : (Str.ofString "copy" = Str.ofString "mix") = False := by simp only [eq_iff_iff, iff_false]; decide +kernel
theorem n_copy_scale : (Str.ofString "copy" = Str.ofString "scale") = False := by simp only [eq_iff_iff, iff_false]; decide +kernel
theorem n_copy_swap : (Str.ofString "copy" = Str.ofString "swap") = False := by simp only [eq_iff_iff, iff_false]; decide +kernel
theorem n_copy_set : (Str.ofString "copy" = Str.ofString "set") = False := by simp only [eq_iff_iff, iff_false]; decide +kernel
theorem i_add_addset (h : MH) : inD (.str (Str.ofString "add")) (.tup [.str (Str.ofString "add"), .str (Str.ofString "set")]) h = some (.bl true, h) := by kernel_rfl
theorem i_mix_addset (h : MH) : inD (.str (Str.ofString "mix")) (.tup [.str (Str.ofString "add"), .str (Str.ofString "set")]) h = some (.bl false, h) := by kernel_rfl
theorem i_scale_addset (h : MH) : inD (.str (Str.ofString "scale")) (.tup [.str (Str.ofString "add"), .str (Str.ofString "set")]) h = some (.bl false, h) := by kernel_rfl
theorem i_swap_addset (h : MH) : inD (.str (Str.ofString "swap")) (.tup [.str (Str.ofString "add"), .str (Str.ofString "set")]) h = some (.bl false, h) := by kernel_rfl
theorem i_set_addset (h : MH) : inD (.str (Str.ofString "set")) (.tup [.str (Str.ofString "add"), .str (Str.ofString "set")]) h = some (.bl true, h) := by kernel_rfl
theorem i_copy_addset (h : MH) : inD (.str (Str.ofString "copy")) (.tup [.str (Str.ofString "add"), .str (Str.ofString "set")]) h = some (.bl false, h) := by kernel_rfl
theorem i_add_setcopy (h : MH) : inD (.str (Str.ofString "add")) (.tup [.str (Str.ofString "set"), .str (Str.ofString "copy")]) h = some (.bl false, h) := by kernel_rfl
theorem i_mix_setcopy (h : MH) : inD (.str (Str.ofString "mix")) (.tup [.str (Str.ofString "set"), .str (Str.ofString "copy")]) h = some (.bl false, h) := by kernel_rfl
theorem i_scale_setcopy (h : MH) : inD (.str (Str.ofString "scale")) (.tup [.str (Str.ofString "set"), .str (Str.ofString "copy")]) h = some (.bl false, h) := by kernel_rfl
theorem i_swap_setcopy (h : MH) : inD (.str (Str.ofString "swap")) (.tup [.str (Str.ofString "set"), .str (Str.ofString "copy")]) h = some (.bl false, h) := by kernel_rfl
theorem i_set_setcopy (h : MH) : inD (.str (Str.ofString "set")) (.tup [.str (Str.ofString "set"), .str (Str.ofString "copy")]) h = some (.bl true, h) := by kernel_rfl
theorem i_copy_setcopy (h : MH) : inD (.str (Str.ofString "copy")) (.tup [.str (Str.ofString "set"), .str (Str.ofString "copy")]) h = some (.bl true, h) := by kernel_rfl
theorem i_add_mixcopy (h : MH) : inD (.str (Str.ofString "add")) (.tup [.str (Str.ofString "mix"), .str (Str.ofString "copy")]) h = some (.bl false, h) := by kernel_rfl
theorem i_mix_mixcopy (h : MH) : inD (.str (Str.ofString "mix")) (.tup [.str (Str.ofString "mix"), .str (Str.ofString "copy")]) h = some (.bl true, h) := by kernel_rfl
theorem i_scale_mixcopy (h : MH) : inD (.str (Str.ofString "scale")) (.tup [.str (Str.ofString "mix"), .str (Str.ofString "copy")]) h = some (.bl false, h) := by kernel_rfl
theorem i_swap_mixcopy (h : MH) : inD (.str (Str.ofString "swap")) (.tup [.str (Str.ofString "mix"), .str (Str.ofString "copy")]) h = some (.bl false, h) := by kernel_rfl
theorem i_set_mixcopy (h : MH) : inD (.str (Str.ofString "set")) (.tup [.str (Str.ofString "mix"), .str (Str.ofString "copy")]) h = some (.bl false, h) := by kernel_rfl
theorem i_copy_mixcopy (h : MH) : inD (.str (Str.ofString "copy")) (.tup [.str (Str.ofString "mix"), .str (Str.ofString "copy")]) h = some (.bl true, h) := by kernel_rfl

/-! ### a row done -/
structure Ok (bs ds : List Int) : Prop where
  len : ds.length = bs.length
  le : bs.length ≤ 6
  ge : 0 < bs.length
  base : ∀ k (h : k < bs.length), 2 ≤ bs[k] ∧ bs[k] ≤ 5
  dig : ∀ k (h1 : k < ds.length) (h2 : k < bs.length), 0 ≤ ds[k] ∧ ds[k] < bs[k]
def at_ (ds : List Int) (k : Nat) : Int := ds.getD k 0
theorem ix_at {ds : List Int} {k : Nat} (h : k < ds.length) : L2.atI (ds.map D.int) (k : Int) = some (.int (at_ ds k)) := by
  unfold L2.atI
  rw [List.length_map, show L2.ixN ds.length (k : Int) = some k from by unfold L2.ixN; simp [runD, sSeq, sRet, sIf, sSet, sEx, sSub, sNil, eVar, eC, eOp, eChain, tTruth, tBl, tNotM, tAndM, tOrM, eAndM, eOrM, eNotM, eIfM, aNil, aCons, eTup, eLst, mkLst, mkTup, eCB, eF, eSl, oPart, oNone, eUn, isB, truD, isiF, tyOf, subT, leD, ltD, gtD, geD, cmpD, lenF, lenN, neD, eqD, eqB, ofOpt, MM.keep, Res.bind, Res.toS, ixD, addD, subD, modD, fdivD, intF, List.replicate, setD, negD, mulD, sizeLine, sAsg, asg, asgs, items, sPar, n_add_mix, n_add_scale, n_add_swap, n_add_set, n_add_copy, n_mix_add, n_mix_scale, n_mix_swap, n_mix_set, n_mix_copy, n_scale_add, n_scale_mix, n_scale_swap, n_scale_set, n_scale_copy, n_swap_add, n_swap_mix, n_swap_scale, n_swap_set, n_swap_copy, n_set_add, n_set_mix, n_set_scale, n_set_swap, n_set_copy, n_copy_add, n_copy_mix, n_copy_scale, n_copy_swap, n_copy_set, i_add_addset, i_mix_addset, i_scale_addset, i_swap_addset, i_set_addset, i_copy_addset, i_add_setcopy, i_mix_setcopy, i_scale_setcopy, i_swap_setcopy, i_set_setcopy, i_copy_setcopy, i_add_mixcopy, i_mix_mixcopy, i_scale_mixcopy, i_swap_mixcopy, i_set_mixcopy, i_copy_mixcopy, h]]
  simp [runD, sSeq, sRet, sIf, sSet, sEx, sSub, sNil, eVar, eC, eOp, eChain, tTruth, tBl, tNotM, tAndM, tOrM, eAndM, eOrM, eNotM, eIfM, aNil, aCons, eTup, eLst, mkLst, mkTup, eCB, eF, eSl, oPart, oNone, eUn, isB, truD, isiF, tyOf, subT, leD, ltD, gtD, geD, cmpD, lenF, lenN, neD, eqD, eqB, ofOpt, MM.keep, Res.bind, Res.toS, ixD, addD, subD, modD, fdivD, intF, List.replicate, setD, negD, mulD, sizeLine, sAsg, asg, asgs, items, sPar, n_add_mix, n_add_scale, n_add_swap, n_add_set, n_add_copy, n_mix_add, n_mix_scale, n_mix_swap, n_mix_set, n_mix_copy, n_scale_add, n_scale_mix, n_scale_swap, n_scale_set, n_scale_copy, n_swap_add, n_swap_mix, n_swap_scale, n_swap_set, n_swap_copy, n_set_add, n_set_mix, n_set_scale, n_set_swap, n_set_copy, n_copy_add, n_copy_mix, n_copy_scale, n_copy_swap, n_copy_set, i_add_addset, i_mix_addset, i_scale_addset, i_swap_addset, i_set_addset, i_copy_addset, i_add_setcopy, i_mix_setcopy, i_scale_setcopy, i_swap_setcopy, i_set_setcopy, i_copy_setcopy, i_add_mixcopy, i_mix_mixcopy, i_scale_mixcopy, i_swap_mixcopy, i_set_mixcopy, i_copy_mixcopy, at_, h]
theorem ixN_at {n k : Nat} (h : k < n) : L2.ixN n (k : Int) = some k := by unfold L2.ixN; simp [runD, sSeq, sRet, sIf, sSet, sEx, sSub, sNil, eVar, eC, eOp, eChain, tTruth, tBl, tNotM, tAndM, tOrM, eAndM, eOrM, eNotM, eIfM, aNil, aCons, eTup, eLst, mkLst, mkTup, eCB, eF, eSl, oPart, oNone, eUn, isB, truD, isiF, tyOf, subT, leD, ltD, gtD, geD, cmpD, lenF, lenN, neD, eqD, eqB, ofOpt, MM.keep, Res.bind, Res.toS, ixD, addD, subD, modD, fdivD, intF, List.replicate, setD, negD, mulD, sizeLine, sAsg, asg, asgs, items, sPar, n_add_mix, n_add_scale, n_add_swap, n_add_set, n_add_copy, n_mix_add, n_mix_scale, n_mix_swap, n_mix_set, n_mix_copy, n_scale_add, n_scale_mix, n_scale_swap, n_scale_set, n_scale_copy, n_swap_add, n_swap_mix, n_swap_scale, n_swap_set, n_swap_copy, n_set_add, n_set_mix, n_set_scale, n_set_swap, n_set_copy, n_copy_add, n_copy_mix, n_copy_scale, n_copy_swap, n_copy_set, i_add_addset, i_mix_addset, i_scale_addset, i_swap_addset, i_set_addset, i_copy_addset, i_add_setcopy, i_mix_setcopy, i_scale_setcopy, i_swap_setcopy, i_set_setcopy, i_copy_setcopy, i_add_mixcopy, i_mix_mixcopy, i_scale_mixcopy, i_swap_mixcopy, i_set_mixcopy, i_copy_mixcopy, h]
theorem set_map (ds : List Int) (k : Nat) (v : Int) : (ds.map D.int).set k (.int v) = (ds.set k v).map D.int := by rw [List.map_set]
inductive Act (bs : List Int) : List D → Prop
  | add {i : Nat} {c : Int} : i < bs.length → 0 ≤ c → c < 70 → Act bs [.str (Str.ofString "add"), .int i, .int c]
  | mix {i j : Nat} {c : Int} : i < bs.length → j < bs.length → 0 ≤ c → c < 70 → Act bs [.str (Str.ofString "mix"), .int i, .int j, .int c]
  | scale {i : Nat} {c : Int} : i < bs.length → 0 ≤ c → c < at_ bs i → Act bs [.str (Str.ofString "scale"), .int i, .int c]
  | swap {i j : Nat} : i < bs.length → j < bs.length → at_ bs i = at_ bs j → Act bs [.str (Str.ofString "swap"), .int i, .int j]
  | set {i : Nat} {c : Int} : i < bs.length → 0 ≤ c → c < 70 → Act bs [.str (Str.ofString "set"), .int i, .int c]
  | copy {i j : Nat} : i < bs.length → j < bs.length → Act bs [.str (Str.ofString "copy"), .int i, .int j]
def cD (cs : List (Nat × Int)) : List D := cs.map fun p => .tup [.int p.1, .int p.2]
def holds (ds : List Int) (cs : List (Nat × Int)) : List Bool := cs.map fun p => at_ ds p.1 == p.2
def Conds (n : Nat) (cs : List (Nat × Int)) : Prop := cs.length ≤ 6 ∧ ∀ p ∈ cs, p.1 < n ∧ 0 ≤ p.2 ∧ p.2 < 70
theorem cond1 {ds : List Int} {cs : List (Nat × Int)} (hc : Conds ds.length cs) (x0 x1 x3 : Option D) : ∃ h1, eLc (iSeq (eVar 4)) (.tp [(.nm 7), (.nm 8)]) tYesM (eOp eqD (eOp ixD (eVar 2) (eVar 7)) (eVar 8)) [7, 8] [x0, x1, some (.tup (ds.map .int)), x3, some (.tup (cD cs)), none, none, none, none] MH.nil = .ok (.ref 0) h1 ∧
    h1.n = 1 ∧ h1.get 0 = some (.lst ((holds ds cs).map .bl)) := by
  obtain ⟨acc, h', e, q1, q2, q3⟩ := lcL_spec (it := .tup (cD cs)) (t := .tp [.nm 7, .nm 8]) (tt := tYesM) (te := eOp eqD (eOp ixD (eVar 2) (eVar 7)) (eVar 8))
    (env := [x0, x1, some (.tup (ds.map .int)), x3, some (.tup (cD cs)), none, none, none, none]) (L := 0)
    (fun k acc h => h.n = 1 ∧ h.get 0 = some (.lst acc) ∧ acc = ((holds ds cs).take k).map .bl) (acc0 := []) (h0 := MH.nil.add (.lst []))
    ⟨rfl, MH.get_add_same _ _, rfl⟩
    (fun k acc h hk ⟨q1, q2, q3⟩ => by
      have hk' : k < cs.length := by simpa [runD, sSeq, sRet, sIf, sSet, sEx, sSub, sNil, eVar, eC, eOp, eChain, tTruth, tBl, tNotM, tAndM, tOrM, eAndM, eOrM, eNotM, eIfM, aNil, aCons, eTup, eLst, mkLst, mkTup, eCB, eF, eSl, oPart, oNone, eUn, isB, truD, isiF, tyOf, subT, leD, ltD, gtD, geD, cmpD, lenF, lenN, neD, eqD, eqB, ofOpt, MM.keep, Res.bind, Res.toS, ixD, addD, subD, modD, fdivD, intF, List.replicate, setD, negD, mulD, sizeLine, sAsg, asg, asgs, items, sPar, n_add_mix, n_add_scale, n_add_swap, n_add_set, n_add_copy, n_mix_add, n_mix_scale, n_mix_swap, n_mix_set, n_mix_copy, n_scale_add, n_scale_mix, n_scale_swap, n_scale_set, n_scale_copy, n_swap_add, n_swap_mix, n_swap_scale, n_swap_set, n_swap_copy, n_set_add, n_set_mix, n_set_scale, n_set_swap, n_set_copy, n_copy_add, n_copy_mix, n_copy_scale, n_copy_swap, n_copy_set, i_add_addset, i_mix_addset, i_scale_addset, i_swap_addset, i_set_addset, i_copy_addset, i_add_setcopy, i_mix_setcopy, i_scale_setcopy, i_swap_setcopy, i_set_setcopy, i_copy_setcopy, i_add_mixcopy, i_mix_mixcopy, i_scale_mixcopy, i_swap_mixcopy, i_set_mixcopy, i_copy_mixcopy, MI.n, cD] using hk
      obtain ⟨c1, c2, c3⟩ := hc.2 _ (List.getElem_mem hk')
      have ix := ix_at (ds := ds) c1
      refine ⟨.tup [.int cs[k].1, .int cs[k].2], [x0, x1, some (.tup (ds.map .int)), x3, some (.tup (cD cs)), none, none, some (.int cs[k].1), some (.int cs[k].2)], by simp [runD, sSeq, sRet, sIf, sSet, sEx, sSub, sNil, eVar, eC, eOp, eChain, tTruth, tBl, tNotM, tAndM, tOrM, eAndM, eOrM, eNotM, eIfM, aNil, aCons, eTup, eLst, mkLst, mkTup, eCB, eF, eSl, oPart, oNone, eUn, isB, truD, isiF, tyOf, subT, leD, ltD, gtD, geD, cmpD, lenF, lenN, neD, eqD, eqB, ofOpt, MM.keep, Res.bind, Res.toS, ixD, addD, subD, modD, fdivD, intF, List.replicate, setD, negD, mulD, sizeLine, sAsg, asg, asgs, items, sPar, n_add_mix, n_add_scale, n_add_swap, n_add_set, n_add_copy, n_mix_add, n_mix_scale, n_mix_swap, n_mix_set, n_mix_copy, n_scale_add, n_scale_mix, n_scale_swap, n_scale_set, n_scale_copy, n_swap_add, n_swap_mix, n_swap_scale, n_swap_set, n_swap_copy, n_set_add, n_set_mix, n_set_scale, n_set_swap, n_set_copy, n_copy_add, n_copy_mix, n_copy_scale, n_copy_swap, n_copy_set, i_add_addset, i_mix_addset, i_scale_addset, i_swap_addset, i_set_addset, i_copy_addset, i_add_setcopy, i_mix_setcopy, i_scale_setcopy, i_swap_setcopy, i_set_setcopy, i_copy_setcopy, i_add_mixcopy, i_mix_mixcopy, i_scale_mixcopy, i_swap_mixcopy, i_set_mixcopy, i_copy_mixcopy, MI.at, cD, hk'], rfl, .inr ⟨h, .bl (at_ ds cs[k].1 == cs[k].2), h, rfl, ?_, q2, ?_, ?_⟩⟩
      · simp [runD, sSeq, sRet, sIf, sSet, sEx, sSub, sNil, eVar, eC, eOp, eChain, tTruth, tBl, tNotM, tAndM, tOrM, eAndM, eOrM, eNotM, eIfM, aNil, aCons, eTup, eLst, mkLst, mkTup, eCB, eF, eSl, oPart, oNone, eUn, isB, truD, isiF, tyOf, subT, leD, ltD, gtD, geD, cmpD, lenF, lenN, neD, eqD, eqB, ofOpt, MM.keep, Res.bind, Res.toS, ixD, addD, subD, modD, fdivD, intF, List.replicate, setD, negD, mulD, sizeLine, sAsg, asg, asgs, items, sPar, n_add_mix, n_add_scale, n_add_swap, n_add_set, n_add_copy, n_mix_add, n_mix_scale, n_mix_swap, n_mix_set, n_mix_copy, n_scale_add, n_scale_mix, n_scale_swap, n_scale_set, n_scale_copy, n_swap_add, n_swap_mix, n_swap_scale, n_swap_set, n_swap_copy, n_set_add, n_set_mix, n_set_scale, n_set_swap, n_set_copy, n_copy_add, n_copy_mix, n_copy_scale, n_copy_swap, n_copy_set, i_add_addset, i_mix_addset, i_scale_addset, i_swap_addset, i_set_addset, i_copy_addset, i_add_setcopy, i_mix_setcopy, i_scale_setcopy, i_swap_setcopy, i_set_setcopy, i_copy_setcopy, i_add_mixcopy, i_mix_mixcopy, i_scale_mixcopy, i_swap_mixcopy, i_set_mixcopy, i_copy_mixcopy, ix]
      · have : acc.length ≤ 6 := by rw [q3, List.length_map, List.length_take, holds, List.length_map]; have := hc.1; omega
        simp [runD, sSeq, sRet, sIf, sSet, sEx, sSub, sNil, eVar, eC, eOp, eChain, tTruth, tBl, tNotM, tAndM, tOrM, eAndM, eOrM, eNotM, eIfM, aNil, aCons, eTup, eLst, mkLst, mkTup, eCB, eF, eSl, oPart, oNone, eUn, isB, truD, isiF, tyOf, subT, leD, ltD, gtD, geD, cmpD, lenF, lenN, neD, eqD, eqB, ofOpt, MM.keep, Res.bind, Res.toS, ixD, addD, subD, modD, fdivD, intF, List.replicate, setD, negD, mulD, sizeLine, sAsg, asg, asgs, items, sPar, n_add_mix, n_add_scale, n_add_swap, n_add_set, n_add_copy, n_mix_add, n_mix_scale, n_mix_swap, n_mix_set, n_mix_copy, n_scale_add, n_scale_mix, n_scale_swap, n_scale_set, n_scale_copy, n_swap_add, n_swap_mix, n_swap_scale, n_swap_set, n_swap_copy, n_set_add, n_set_mix, n_set_scale, n_set_swap, n_set_copy, n_copy_add, n_copy_mix, n_copy_scale, n_copy_swap, n_copy_set, i_add_addset, i_mix_addset, i_scale_addset, i_swap_addset, i_set_addset, i_copy_addset, i_add_setcopy, i_mix_setcopy, i_scale_setcopy, i_swap_setcopy, i_set_setcopy, i_copy_setcopy, i_add_mixcopy, i_mix_mixcopy, i_scale_mixcopy, i_swap_mixcopy, i_set_mixcopy, i_copy_mixcopy]; omega
      · refine ⟨by simp [runD, sSeq, sRet, sIf, sSet, sEx, sSub, sNil, eVar, eC, eOp, eChain, tTruth, tBl, tNotM, tAndM, tOrM, eAndM, eOrM, eNotM, eIfM, aNil, aCons, eTup, eLst, mkLst, mkTup, eCB, eF, eSl, oPart, oNone, eUn, isB, truD, isiF, tyOf, subT, leD, ltD, gtD, geD, cmpD, lenF, lenN, neD, eqD, eqB, ofOpt, MM.keep, Res.bind, Res.toS, ixD, addD, subD, modD, fdivD, intF, List.replicate, setD, negD, mulD, sizeLine, sAsg, asg, asgs, items, sPar, n_add_mix, n_add_scale, n_add_swap, n_add_set, n_add_copy, n_mix_add, n_mix_scale, n_mix_swap, n_mix_set, n_mix_copy, n_scale_add, n_scale_mix, n_scale_swap, n_scale_set, n_scale_copy, n_swap_add, n_swap_mix, n_swap_scale, n_swap_set, n_swap_copy, n_set_add, n_set_mix, n_set_scale, n_set_swap, n_set_copy, n_copy_add, n_copy_mix, n_copy_scale, n_copy_swap, n_copy_set, i_add_addset, i_mix_addset, i_scale_addset, i_swap_addset, i_set_addset, i_copy_addset, i_add_setcopy, i_mix_setcopy, i_scale_setcopy, i_swap_setcopy, i_set_setcopy, i_copy_setcopy, i_add_mixcopy, i_mix_mixcopy, i_scale_mixcopy, i_swap_mixcopy, i_set_mixcopy, i_copy_mixcopy, q1], MH.get_set_same _ _ _, ?_⟩
        rw [q3, ← List.map_singleton (f := D.bl), ← List.map_append]
        congr 1
        rw [List.take_add_one]
        have : (holds ds cs)[k]? = some (at_ ds cs[k].1 == cs[k].2) := by simp [runD, sSeq, sRet, sIf, sSet, sEx, sSub, sNil, eVar, eC, eOp, eChain, tTruth, tBl, tNotM, tAndM, tOrM, eAndM, eOrM, eNotM, eIfM, aNil, aCons, eTup, eLst, mkLst, mkTup, eCB, eF, eSl, oPart, oNone, eUn, isB, truD, isiF, tyOf, subT, leD, ltD, gtD, geD, cmpD, lenF, lenN, neD, eqD, eqB, ofOpt, MM.keep, Res.bind, Res.toS, ixD, addD, subD, modD, fdivD, intF, List.replicate, setD, negD, mulD, sizeLine, sAsg, asg, asgs, items, sPar, n_add_mix, n_add_scale, n_add_swap, n_add_set, n_add_copy, n_mix_add, n_mix_scale, n_mix_swap, n_mix_set, n_mix_copy, n_scale_add, n_scale_mix, n_scale_swap, n_scale_set, n_scale_copy, n_swap_add, n_swap_mix, n_swap_scale, n_swap_set, n_swap_copy, n_set_add, n_set_mix, n_set_scale, n_set_swap, n_set_copy, n_copy_add, n_copy_mix, n_copy_scale, n_copy_swap, n_copy_set, i_add_addset, i_mix_addset, i_scale_addset, i_swap_addset, i_set_addset, i_copy_addset, i_add_setcopy, i_mix_setcopy, i_scale_setcopy, i_swap_setcopy, i_set_setcopy, i_copy_setcopy, i_add_mixcopy, i_mix_mixcopy, i_scale_mixcopy, i_swap_mixcopy, i_set_mixcopy, i_copy_mixcopy, holds, hk']
        rw [this]; rfl)
    (fun _ _ _ => rfl)
  have full : ((holds ds cs).take (MI.tup (cD cs)).n) = holds ds cs := List.take_of_length_le (by simp [runD, sSeq, sRet, sIf, sSet, sEx, sSub, sNil, eVar, eC, eOp, eChain, tTruth, tBl, tNotM, tAndM, tOrM, eAndM, eOrM, eNotM, eIfM, aNil, aCons, eTup, eLst, mkLst, mkTup, eCB, eF, eSl, oPart, oNone, eUn, isB, truD, isiF, tyOf, subT, leD, ltD, gtD, geD, cmpD, lenF, lenN, neD, eqD, eqB, ofOpt, MM.keep, Res.bind, Res.toS, ixD, addD, subD, modD, fdivD, intF, List.replicate, setD, negD, mulD, sizeLine, sAsg, asg, asgs, items, sPar, n_add_mix, n_add_scale, n_add_swap, n_add_set, n_add_copy, n_mix_add, n_mix_scale, n_mix_swap, n_mix_set, n_mix_copy, n_scale_add, n_scale_mix, n_scale_swap, n_scale_set, n_scale_copy, n_swap_add, n_swap_mix, n_swap_scale, n_swap_set, n_swap_copy, n_set_add, n_set_mix, n_set_scale, n_set_swap, n_set_copy, n_copy_add, n_copy_mix, n_copy_scale, n_copy_swap, n_copy_set, i_add_addset, i_mix_addset, i_scale_addset, i_swap_addset, i_set_addset, i_copy_addset, i_add_setcopy, i_mix_setcopy, i_scale_setcopy, i_swap_setcopy, i_set_setcopy, i_copy_setcopy, i_add_mixcopy, i_mix_mixcopy, i_scale_mixcopy, i_swap_mixcopy, i_set_mixcopy, i_copy_mixcopy, MI.n, holds, cD])
  rw [full] at q3
  refine ⟨h', ?_, q1, by rw [q2, q3]⟩
  have e0 : MH.nil.n = 0 := rfl
  simp [runD, sSeq, sRet, sIf, sSet, sEx, sSub, sNil, eVar, eC, eOp, eChain, tTruth, tBl, tNotM, tAndM, tOrM, eAndM, eOrM, eNotM, eIfM, aNil, aCons, eTup, eLst, mkLst, mkTup, eCB, eF, eSl, oPart, oNone, eUn, isB, truD, isiF, tyOf, subT, leD, ltD, gtD, geD, cmpD, lenF, lenN, neD, eqD, eqB, ofOpt, MM.keep, Res.bind, Res.toS, ixD, addD, subD, modD, fdivD, intF, List.replicate, setD, negD, mulD, sizeLine, sAsg, asg, asgs, items, sPar, n_add_mix, n_add_scale, n_add_swap, n_add_set, n_add_copy, n_mix_add, n_mix_scale, n_mix_swap, n_mix_set, n_mix_copy, n_scale_add, n_scale_mix, n_scale_swap, n_scale_set, n_scale_copy, n_swap_add, n_swap_mix, n_swap_scale, n_swap_set, n_swap_copy, n_set_add, n_set_mix, n_set_scale, n_set_swap, n_set_copy, n_copy_add, n_copy_mix, n_copy_scale, n_copy_swap, n_copy_set, i_add_addset, i_mix_addset, i_scale_addset, i_swap_addset, i_set_addset, i_copy_addset, i_add_setcopy, i_mix_setcopy, i_scale_setcopy, i_swap_setcopy, i_set_setcopy, i_copy_setcopy, i_add_mixcopy, i_mix_mixcopy, i_scale_mixcopy, i_swap_mixcopy, i_set_mixcopy, i_copy_mixcopy, eLc, iSeq, wipeE, e0, e]
theorem cond2 {ds : List Int} {cs : List (Nat × Int)} (hc : Conds ds.length cs) (x0 x1 x3 : Option D) : ∀ (env : ME), env.length = 10 → env[2]? = some (some (.tup (ds.map .int))) →
    ((holds ds cs).all id = true → ∃ e, forL (.tup (cD cs)) (.tp [(.nm 5), (.nm 6)]) (sIf (tBl (eOp neD (eOp ixD (eVar 2) (eVar 5)) (eVar 6))) (sRet (eVar 2)) sNil) (cD cs).length 0 env MH.nil = .nx e MH.nil ∧ ∃ a b, e = (env.set 5 a).set 6 b) ∧
    ((holds ds cs).all id = false → forL (.tup (cD cs)) (.tp [(.nm 5), (.nm 6)]) (sIf (tBl (eOp neD (eOp ixD (eVar 2) (eVar 5)) (eVar 6))) (sRet (eVar 2)) sNil) (cD cs).length 0 env MH.nil = .rt (.tup (ds.map .int)) MH.nil) := by
  intro env hl h2
  have look := forL_look (it := .tup (cD cs)) (t := .tp [.nm 5, .nm 6]) (v := .tup (ds.map .int)) (body := sIf (tBl (eOp neD (eOp ixD (eVar 2) (eVar 5)) (eVar 6))) (sRet (eVar 2)) sNil)
    (fun k => match cs[k]? with
      | some p => at_ ds p.1 == p.2
      | none => false) (fun e => e = env ∨ ∃ a b, e = (env.set 5 a).set 6 b) (h := MH.nil)
    (fun k e hk he => by
      have hk' : k < cs.length := by simpa [runD, sSeq, sRet, sIf, sSet, sEx, sSub, sNil, eVar, eC, eOp, eChain, tTruth, tBl, tNotM, tAndM, tOrM, eAndM, eOrM, eNotM, eIfM, aNil, aCons, eTup, eLst, mkLst, mkTup, eCB, eF, eSl, oPart, oNone, eUn, isB, truD, isiF, tyOf, subT, leD, ltD, gtD, geD, cmpD, lenF, lenN, neD, eqD, eqB, ofOpt, MM.keep, Res.bind, Res.toS, ixD, addD, subD, modD, fdivD, intF, List.replicate, setD, negD, mulD, sizeLine, sAsg, asg, asgs, items, sPar, n_add_mix, n_add_scale, n_add_swap, n_add_set, n_add_copy, n_mix_add, n_mix_scale, n_mix_swap, n_mix_set, n_mix_copy, n_scale_add, n_scale_mix, n_scale_swap, n_scale_set, n_scale_copy, n_swap_add, n_swap_mix, n_swap_scale, n_swap_set, n_swap_copy, n_set_add, n_set_mix, n_set_scale, n_set_swap, n_set_copy, n_copy_add, n_copy_mix, n_copy_scale, n_copy_swap, n_copy_set, i_add_addset, i_mix_addset, i_scale_addset, i_swap_addset, i_set_addset, i_copy_addset, i_add_setcopy, i_mix_setcopy, i_scale_setcopy, i_swap_setcopy, i_set_setcopy, i_copy_setcopy, i_add_mixcopy, i_mix_mixcopy, i_scale_mixcopy, i_swap_mixcopy, i_set_mixcopy, i_copy_mixcopy, MI.n, cD] using hk
      obtain ⟨c1, c2, c3⟩ := hc.2 _ (List.getElem_mem hk')
      have ix := ix_at (ds := ds) c1
      have hle : e.length = 10 := by rcases he with rfl | ⟨a, b, rfl⟩ <;> simp [runD, sSeq, sRet, sIf, sSet, sEx, sSub, sNil, eVar, eC, eOp, eChain, tTruth, tBl, tNotM, tAndM, tOrM, eAndM, eOrM, eNotM, eIfM, aNil, aCons, eTup, eLst, mkLst, mkTup, eCB, eF, eSl, oPart, oNone, eUn, isB, truD, isiF, tyOf, subT, leD, ltD, gtD, geD, cmpD, lenF, lenN, neD, eqD, eqB, ofOpt, MM.keep, Res.bind, Res.toS, ixD, addD, subD, modD, fdivD, intF, List.replicate, setD, negD, mulD, sizeLine, sAsg, asg, asgs, items, sPar, n_add_mix, n_add_scale, n_add_swap, n_add_set, n_add_copy, n_mix_add, n_mix_scale, n_mix_swap, n_mix_set, n_mix_copy, n_scale_add, n_scale_mix, n_scale_swap, n_scale_set, n_scale_copy, n_swap_add, n_swap_mix, n_swap_scale, n_swap_set, n_swap_copy, n_set_add, n_set_mix, n_set_scale, n_set_swap, n_set_copy, n_copy_add, n_copy_mix, n_copy_scale, n_copy_swap, n_copy_set, i_add_addset, i_mix_addset, i_scale_addset, i_swap_addset, i_set_addset, i_copy_addset, i_add_setcopy, i_mix_setcopy, i_scale_setcopy, i_swap_setcopy, i_set_setcopy, i_copy_setcopy, i_add_mixcopy, i_mix_mixcopy, i_scale_mixcopy, i_swap_mixcopy, i_set_mixcopy, i_copy_mixcopy, hl]
      have he2 : e[2]? = some (some (.tup (ds.map .int))) := by
        rcases he with rfl | ⟨a, b, rfl⟩
        · exact h2
        · rw [List.getElem?_set_ne (by decide), List.getElem?_set_ne (by decide)]; exact h2
      have het : ∃ a b, (e.set 5 (some (.int cs[k].1))).set 6 (some (.int cs[k].2)) = (env.set 5 a).set 6 b := by
        rcases he with rfl | ⟨a, b, rfl⟩
        · exact ⟨_, _, rfl⟩
        · refine ⟨some (.int cs[k].1), some (.int cs[k].2), ?_⟩
          rw [List.set_comm _ _ (by decide : (6 : Nat) ≠ 5), List.set_set, List.set_set]
      have v2 : ((e.set 5 (some (D.int cs[k].1))).set 6 (some (D.int cs[k].2)))[2]? = some (some (.tup (ds.map .int))) := by
        rw [List.getElem?_set_ne (by decide), List.getElem?_set_ne (by decide)]; exact he2
      have v5 : ((e.set 5 (some (D.int cs[k].1))).set 6 (some (D.int cs[k].2)))[5]? = some (some (.int cs[k].1)) := by
        rw [List.getElem?_set_ne (by decide), List.getElem?_set_self (by omega)]
      have v6 : ((e.set 5 (some (D.int cs[k].1))).set 6 (some (D.int cs[k].2)))[6]? = some (some (.int cs[k].2)) := by
        rw [List.getElem?_set_self (by simp [runD, sSeq, sRet, sIf, sSet, sEx, sSub, sNil, eVar, eC, eOp, eChain, tTruth, tBl, tNotM, tAndM, tOrM, eAndM, eOrM, eNotM, eIfM, aNil, aCons, eTup, eLst, mkLst, mkTup, eCB, eF, eSl, oPart, oNone, eUn, isB, truD, isiF, tyOf, subT, leD, ltD, gtD, geD, cmpD, lenF, lenN, neD, eqD, eqB, ofOpt, MM.keep, Res.bind, Res.toS, ixD, addD, subD, modD, fdivD, intF, List.replicate, setD, negD, mulD, sizeLine, sAsg, asg, asgs, items, sPar, n_add_mix, n_add_scale, n_add_swap, n_add_set, n_add_copy, n_mix_add, n_mix_scale, n_mix_swap, n_mix_set, n_mix_copy, n_scale_add, n_scale_mix, n_scale_swap, n_scale_set, n_scale_copy, n_swap_add, n_swap_mix, n_swap_scale, n_swap_set, n_swap_copy, n_set_add, n_set_mix, n_set_scale, n_set_swap, n_set_copy, n_copy_add, n_copy_mix, n_copy_scale, n_copy_swap, n_copy_set, i_add_addset, i_mix_addset, i_scale_addset, i_swap_addset, i_set_addset, i_copy_addset, i_add_setcopy, i_mix_setcopy, i_scale_setcopy, i_swap_setcopy, i_set_setcopy, i_copy_setcopy, i_add_mixcopy, i_mix_mixcopy, i_scale_mixcopy, i_swap_mixcopy, i_set_mixcopy, i_copy_mixcopy]; omega)]
      refine ⟨.tup [.int cs[k].1, .int cs[k].2], (e.set 5 (some (.int cs[k].1))).set 6 (some (.int cs[k].2)), by simp [runD, sSeq, sRet, sIf, sSet, sEx, sSub, sNil, eVar, eC, eOp, eChain, tTruth, tBl, tNotM, tAndM, tOrM, eAndM, eOrM, eNotM, eIfM, aNil, aCons, eTup, eLst, mkLst, mkTup, eCB, eF, eSl, oPart, oNone, eUn, isB, truD, isiF, tyOf, subT, leD, ltD, gtD, geD, cmpD, lenF, lenN, neD, eqD, eqB, ofOpt, MM.keep, Res.bind, Res.toS, ixD, addD, subD, modD, fdivD, intF, List.replicate, setD, negD, mulD, sizeLine, sAsg, asg, asgs, items, sPar, n_add_mix, n_add_scale, n_add_swap, n_add_set, n_add_copy, n_mix_add, n_mix_scale, n_mix_swap, n_mix_set, n_mix_copy, n_scale_add, n_scale_mix, n_scale_swap, n_scale_set, n_scale_copy, n_swap_add, n_swap_mix, n_swap_scale, n_swap_set, n_swap_copy, n_set_add, n_set_mix, n_set_scale, n_set_swap, n_set_copy, n_copy_add, n_copy_mix, n_copy_scale, n_copy_swap, n_copy_set, i_add_addset, i_mix_addset, i_scale_addset, i_swap_addset, i_set_addset, i_copy_addset, i_add_setcopy, i_mix_setcopy, i_scale_setcopy, i_swap_setcopy, i_set_setcopy, i_copy_setcopy, i_add_mixcopy, i_mix_mixcopy, i_scale_mixcopy, i_swap_mixcopy, i_set_mixcopy, i_copy_mixcopy, MI.at, cD, hk'], rfl, ?_⟩
      simp only [List.getElem?_eq_getElem hk']
      by_cases q : at_ ds cs[k].1 = cs[k].2
      · exact .inl ⟨by simp [runD, sSeq, sRet, sIf, sSet, sEx, sSub, sNil, eVar, eC, eOp, eChain, tTruth, tBl, tNotM, tAndM, tOrM, eAndM, eOrM, eNotM, eIfM, aNil, aCons, eTup, eLst, mkLst, mkTup, eCB, eF, eSl, oPart, oNone, eUn, isB, truD, isiF, tyOf, subT, leD, ltD, gtD, geD, cmpD, lenF, lenN, neD, eqD, eqB, ofOpt, MM.keep, Res.bind, Res.toS, ixD, addD, subD, modD, fdivD, intF, List.replicate, setD, negD, mulD, sizeLine, sAsg, asg, asgs, items, sPar, n_add_mix, n_add_scale, n_add_swap, n_add_set, n_add_copy, n_mix_add, n_mix_scale, n_mix_swap, n_mix_set, n_mix_copy, n_scale_add, n_scale_mix, n_scale_swap, n_scale_set, n_scale_copy, n_swap_add, n_swap_mix, n_swap_scale, n_swap_set, n_swap_copy, n_set_add, n_set_mix, n_set_scale, n_set_swap, n_set_copy, n_copy_add, n_copy_mix, n_copy_scale, n_copy_swap, n_copy_set, i_add_addset, i_mix_addset, i_scale_addset, i_swap_addset, i_set_addset, i_copy_addset, i_add_setcopy, i_mix_setcopy, i_scale_setcopy, i_swap_setcopy, i_set_setcopy, i_copy_setcopy, i_add_mixcopy, i_mix_mixcopy, i_scale_mixcopy, i_swap_mixcopy, i_set_mixcopy, i_copy_mixcopy, q], _, by simp only [sIf, tBl, eOp, eVar, v2, v5, v6, Res.bind, ofOpt, ixD, ix, keep]; simp [runD, sSeq, sRet, sIf, sSet, sEx, sSub, sNil, eVar, eC, eOp, eChain, tTruth, tBl, tNotM, tAndM, tOrM, eAndM, eOrM, eNotM, eIfM, aNil, aCons, eTup, eLst, mkLst, mkTup, eCB, eF, eSl, oPart, oNone, eUn, isB, truD, isiF, tyOf, subT, leD, ltD, gtD, geD, cmpD, lenF, lenN, neD, eqD, eqB, ofOpt, MM.keep, Res.bind, Res.toS, ixD, addD, subD, modD, fdivD, intF, List.replicate, setD, negD, mulD, sizeLine, sAsg, asg, asgs, items, sPar, n_add_mix, n_add_scale, n_add_swap, n_add_set, n_add_copy, n_mix_add, n_mix_scale, n_mix_swap, n_mix_set, n_mix_copy, n_scale_add, n_scale_mix, n_scale_swap, n_scale_set, n_scale_copy, n_swap_add, n_swap_mix, n_swap_scale, n_swap_set, n_swap_copy, n_set_add, n_set_mix, n_set_scale, n_set_swap, n_set_copy, n_copy_add, n_copy_mix, n_copy_scale, n_copy_swap, n_copy_set, i_add_addset, i_mix_addset, i_scale_addset, i_swap_addset, i_set_addset, i_copy_addset, i_add_setcopy, i_mix_setcopy, i_scale_setcopy, i_swap_setcopy, i_set_setcopy, i_copy_setcopy, i_add_mixcopy, i_mix_mixcopy, i_scale_mixcopy, i_swap_mixcopy, i_set_mixcopy, i_copy_mixcopy, q], .inr het⟩
      · have q' : (at_ ds cs[k].1 == cs[k].2) = false := by simpa [runD, sSeq, sRet, sIf, sSet, sEx, sSub, sNil, eVar, eC, eOp, eChain, tTruth, tBl, tNotM, tAndM, tOrM, eAndM, eOrM, eNotM, eIfM, aNil, aCons, eTup, eLst, mkLst, mkTup, eCB, eF, eSl, oPart, oNone, eUn, isB, truD, isiF, tyOf, subT, leD, ltD, gtD, geD, cmpD, lenF, lenN, neD, eqD, eqB, ofOpt, MM.keep, Res.bind, Res.toS, ixD, addD, subD, modD, fdivD, intF, List.replicate, setD, negD, mulD, sizeLine, sAsg, asg, asgs, items, sPar, n_add_mix, n_add_scale, n_add_swap, n_add_set, n_add_copy, n_mix_add, n_mix_scale, n_mix_swap, n_mix_set, n_mix_copy, n_scale_add, n_scale_mix, n_scale_swap, n_scale_set, n_scale_copy, n_swap_add, n_swap_mix, n_swap_scale, n_swap_set, n_swap_copy, n_set_add, n_set_mix, n_set_scale, n_set_swap, n_set_copy, n_copy_add, n_copy_mix, n_copy_scale, n_copy_swap, n_copy_set, i_add_addset, i_mix_addset, i_scale_addset, i_swap_addset, i_set_addset, i_copy_addset, i_add_setcopy, i_mix_setcopy, i_scale_setcopy, i_swap_setcopy, i_set_setcopy, i_copy_setcopy, i_add_mixcopy, i_mix_mixcopy, i_scale_mixcopy, i_swap_mixcopy, i_set_mixcopy, i_copy_mixcopy] using q
        exact .inr ⟨by simp [runD, sSeq, sRet, sIf, sSet, sEx, sSub, sNil, eVar, eC, eOp, eChain, tTruth, tBl, tNotM, tAndM, tOrM, eAndM, eOrM, eNotM, eIfM, aNil, aCons, eTup, eLst, mkLst, mkTup, eCB, eF, eSl, oPart, oNone, eUn, isB, truD, isiF, tyOf, subT, leD, ltD, gtD, geD, cmpD, lenF, lenN, neD, eqD, eqB, ofOpt, MM.keep, Res.bind, Res.toS, ixD, addD, subD, modD, fdivD, intF, List.replicate, setD, negD, mulD, sizeLine, sAsg, asg, asgs, items, sPar, n_add_mix, n_add_scale, n_add_swap, n_add_set, n_add_copy, n_mix_add, n_mix_scale, n_mix_swap, n_mix_set, n_mix_copy, n_scale_add, n_scale_mix, n_scale_swap, n_scale_set, n_scale_copy, n_swap_add, n_swap_mix, n_swap_scale, n_swap_set, n_swap_copy, n_set_add, n_set_mix, n_set_scale, n_set_swap, n_set_copy, n_copy_add, n_copy_mix, n_copy_scale, n_copy_swap, n_copy_set, i_add_addset, i_mix_addset, i_scale_addset, i_swap_addset, i_set_addset, i_copy_addset, i_add_setcopy, i_mix_setcopy, i_scale_setcopy, i_swap_setcopy, i_set_setcopy, i_copy_setcopy, i_add_mixcopy, i_mix_mixcopy, i_scale_mixcopy, i_swap_mixcopy, i_set_mixcopy, i_copy_mixcopy, q], by simp only [sIf, tBl, eOp, eVar, v2, v5, v6, Res.bind, ofOpt, ixD, ix, keep]; simp [runD, sSeq, sRet, sIf, sSet, sEx, sSub, sNil, eVar, eC, eOp, eChain, tTruth, tBl, tNotM, tAndM, tOrM, eAndM, eOrM, eNotM, eIfM, aNil, aCons, eTup, eLst, mkLst, mkTup, eCB, eF, eSl, oPart, oNone, eUn, isB, truD, isiF, tyOf, subT, leD, ltD, gtD, geD, cmpD, lenF, lenN, neD, eqD, eqB, ofOpt, MM.keep, Res.bind, Res.toS, ixD, addD, subD, modD, fdivD, intF, List.replicate, setD, negD, mulD, sizeLine, sAsg, asg, asgs, items, sPar, n_add_mix, n_add_scale, n_add_swap, n_add_set, n_add_copy, n_mix_add, n_mix_scale, n_mix_swap, n_mix_set, n_mix_copy, n_scale_add, n_scale_mix, n_scale_swap, n_scale_set, n_scale_copy, n_swap_add, n_swap_mix, n_swap_scale, n_swap_set, n_swap_copy, n_set_add, n_set_mix, n_set_scale, n_set_swap, n_set_copy, n_copy_add, n_copy_mix, n_copy_scale, n_copy_swap, n_copy_set, i_add_addset, i_mix_addset, i_scale_addset, i_swap_addset, i_set_addset, i_copy_addset, i_add_setcopy, i_mix_setcopy, i_scale_setcopy, i_swap_setcopy, i_set_setcopy, i_copy_setcopy, i_add_mixcopy, i_mix_mixcopy, i_scale_mixcopy, i_swap_mixcopy, i_set_mixcopy, i_copy_mixcopy, q', v2]⟩)
    rfl (cD cs).length 0 env (by simp [runD, sSeq, sRet, sIf, sSet, sEx, sSub, sNil, eVar, eC, eOp, eChain, tTruth, tBl, tNotM, tAndM, tOrM, eAndM, eOrM, eNotM, eIfM, aNil, aCons, eTup, eLst, mkLst, mkTup, eCB, eF, eSl, oPart, oNone, eUn, isB, truD, isiF, tyOf, subT, leD, ltD, gtD, geD, cmpD, lenF, lenN, neD, eqD, eqB, ofOpt, MM.keep, Res.bind, Res.toS, ixD, addD, subD, modD, fdivD, intF, List.replicate, setD, negD, mulD, sizeLine, sAsg, asg, asgs, items, sPar, n_add_mix, n_add_scale, n_add_swap, n_add_set, n_add_copy, n_mix_add, n_mix_scale, n_mix_swap, n_mix_set, n_mix_copy, n_scale_add, n_scale_mix, n_scale_swap, n_scale_set, n_scale_copy, n_swap_add, n_swap_mix, n_swap_scale, n_swap_set, n_swap_copy, n_set_add, n_set_mix, n_set_scale, n_set_swap, n_set_copy, n_copy_add, n_copy_mix, n_copy_scale, n_copy_swap, n_copy_set, i_add_addset, i_mix_addset, i_scale_addset, i_swap_addset, i_set_addset, i_copy_addset, i_add_setcopy, i_mix_setcopy, i_scale_setcopy, i_swap_setcopy, i_set_setcopy, i_copy_setcopy, i_add_mixcopy, i_mix_mixcopy, i_scale_mixcopy, i_swap_mixcopy, i_set_mixcopy, i_copy_mixcopy, MI.n]) (.inl rfl)
  have hn : (MI.tup (cD cs)).n = cs.length := by simp [runD, sSeq, sRet, sIf, sSet, sEx, sSub, sNil, eVar, eC, eOp, eChain, tTruth, tBl, tNotM, tAndM, tOrM, eAndM, eOrM, eNotM, eIfM, aNil, aCons, eTup, eLst, mkLst, mkTup, eCB, eF, eSl, oPart, oNone, eUn, isB, truD, isiF, tyOf, subT, leD, ltD, gtD, geD, cmpD, lenF, lenN, neD, eqD, eqB, ofOpt, MM.keep, Res.bind, Res.toS, ixD, addD, subD, modD, fdivD, intF, List.replicate, setD, negD, mulD, sizeLine, sAsg, asg, asgs, items, sPar, n_add_mix, n_add_scale, n_add_swap, n_add_set, n_add_copy, n_mix_add, n_mix_scale, n_mix_swap, n_mix_set, n_mix_copy, n_scale_add, n_scale_mix, n_scale_swap, n_scale_set, n_scale_copy, n_swap_add, n_swap_mix, n_swap_scale, n_swap_set, n_swap_copy, n_set_add, n_set_mix, n_set_scale, n_set_swap, n_set_copy, n_copy_add, n_copy_mix, n_copy_scale, n_copy_swap, n_copy_set, i_add_addset, i_mix_addset, i_scale_addset, i_swap_addset, i_set_addset, i_copy_addset, i_add_setcopy, i_mix_setcopy, i_scale_setcopy, i_swap_setcopy, i_set_setcopy, i_copy_setcopy, i_add_mixcopy, i_mix_mixcopy, i_scale_mixcopy, i_swap_mixcopy, i_set_mixcopy, i_copy_mixcopy, MI.n, cD]
  rw [hn] at look
  rcases look with ⟨e, a1, a2, a3⟩ | ⟨a1, j, a2, a3, a4⟩
  · have all : (holds ds cs).all id = true := by
      rw [List.all_eq_true]
      intro x hx
      obtain ⟨p, hp, rfl⟩ := List.mem_map.mp hx
      obtain ⟨j, hj, rfl⟩ := List.mem_iff_getElem.mp hp
      have := a3 j (Nat.zero_le _) hj
      simp only [List.getElem?_eq_getElem hj] at this
      simpa [runD, sSeq, sRet, sIf, sSet, sEx, sSub, sNil, eVar, eC, eOp, eChain, tTruth, tBl, tNotM, tAndM, tOrM, eAndM, eOrM, eNotM, eIfM, aNil, aCons, eTup, eLst, mkLst, mkTup, eCB, eF, eSl, oPart, oNone, eUn, isB, truD, isiF, tyOf, subT, leD, ltD, gtD, geD, cmpD, lenF, lenN, neD, eqD, eqB, ofOpt, MM.keep, Res.bind, Res.toS, ixD, addD, subD, modD, fdivD, intF, List.replicate, setD, negD, mulD, sizeLine, sAsg, asg, asgs, items, sPar, n_add_mix, n_add_scale, n_add_swap, n_add_set, n_add_copy, n_mix_add, n_mix_scale, n_mix_swap, n_mix_set, n_mix_copy, n_scale_add, n_scale_mix, n_scale_swap, n_scale_set, n_scale_copy, n_swap_add, n_swap_mix, n_swap_scale, n_swap_set, n_swap_copy, n_set_add, n_set_mix, n_set_scale, n_set_swap, n_set_copy, n_copy_add, n_copy_mix, n_copy_scale, n_copy_swap, n_copy_set, i_add_addset, i_mix_addset, i_scale_addset, i_swap_addset, i_set_addset, i_copy_addset, i_add_setcopy, i_mix_setcopy, i_scale_setcopy, i_swap_setcopy, i_set_setcopy, i_copy_setcopy, i_add_mixcopy, i_mix_mixcopy, i_scale_mixcopy, i_swap_mixcopy, i_set_mixcopy, i_copy_mixcopy] using this
    refine ⟨fun _ => ⟨e, a1, ?_⟩, fun q => (by rw [all] at q; cases q)⟩
    rcases a2 with rfl | ⟨a, b, rfl⟩
    · exact ⟨e[5]'(by omega), e[6]'(by omega), by simp [runD, sSeq, sRet, sIf, sSet, sEx, sSub, sNil, eVar, eC, eOp, eChain, tTruth, tBl, tNotM, tAndM, tOrM, eAndM, eOrM, eNotM, eIfM, aNil, aCons, eTup, eLst, mkLst, mkTup, eCB, eF, eSl, oPart, oNone, eUn, isB, truD, isiF, tyOf, subT, leD, ltD, gtD, geD, cmpD, lenF, lenN, neD, eqD, eqB, ofOpt, MM.keep, Res.bind, Res.toS, ixD, addD, subD, modD, fdivD, intF, List.replicate, setD, negD, mulD, sizeLine, sAsg, asg, asgs, items, sPar, n_add_mix, n_add_scale, n_add_swap, n_add_set, n_add_copy, n_mix_add, n_mix_scale, n_mix_swap, n_mix_set, n_mix_copy, n_scale_add, n_scale_mix, n_scale_swap, n_scale_set, n_scale_copy, n_swap_add, n_swap_mix, n_swap_scale, n_swap_set, n_swap_copy, n_set_add, n_set_mix, n_set_scale, n_set_swap, n_set_copy, n_copy_add, n_copy_mix, n_copy_scale, n_copy_swap, n_copy_set, i_add_addset, i_mix_addset, i_scale_addset, i_swap_addset, i_set_addset, i_copy_addset, i_add_setcopy, i_mix_setcopy, i_scale_setcopy, i_swap_setcopy, i_set_setcopy, i_copy_setcopy, i_add_mixcopy, i_mix_mixcopy, i_scale_mixcopy, i_swap_mixcopy, i_set_mixcopy, i_copy_mixcopy]⟩
    · exact ⟨a, b, rfl⟩
  · have none : (holds ds cs).all id = false := by
      cases q : (holds ds cs).all id with
      | false => rfl
      | true =>
        have := List.all_eq_true.mp q _ (List.mem_map.mpr ⟨_, List.getElem_mem a3, rfl⟩)
        simp only [List.getElem?_eq_getElem a3] at a4
        rw [a4] at this; cases this
    exact ⟨fun q => (by rw [none] at q; cases q), fun _ => a1⟩
theorem iN1 {m : Nat} : L2.ixN (m + 2) 1 = some 1 := by unfold L2.ixN; simp [runD, sSeq, sRet, sIf, sSet, sEx, sSub, sNil, eVar, eC, eOp, eChain, tTruth, tBl, tNotM, tAndM, tOrM, eAndM, eOrM, eNotM, eIfM, aNil, aCons, eTup, eLst, mkLst, mkTup, eCB, eF, eSl, oPart, oNone, eUn, isB, truD, isiF, tyOf, subT, leD, ltD, gtD, geD, cmpD, lenF, lenN, neD, eqD, eqB, ofOpt, MM.keep, Res.bind, Res.toS, ixD, addD, subD, modD, fdivD, intF, List.replicate, setD, negD, mulD, sizeLine, sAsg, asg, asgs, items, sPar, n_add_mix, n_add_scale, n_add_swap, n_add_set, n_add_copy, n_mix_add, n_mix_scale, n_mix_swap, n_mix_set, n_mix_copy, n_scale_add, n_scale_mix, n_scale_swap, n_scale_set, n_scale_copy, n_swap_add, n_swap_mix, n_swap_scale, n_swap_set, n_swap_copy, n_set_add, n_set_mix, n_set_scale, n_set_swap, n_set_copy, n_copy_add, n_copy_mix, n_copy_scale, n_copy_swap, n_copy_set, i_add_addset, i_mix_addset, i_scale_addset, i_swap_addset, i_set_addset, i_copy_addset, i_add_setcopy, i_mix_setcopy, i_scale_setcopy, i_swap_setcopy, i_set_setcopy, i_copy_setcopy, i_add_mixcopy, i_mix_mixcopy, i_scale_mixcopy, i_swap_mixcopy, i_set_mixcopy, i_copy_mixcopy, MH.seq, listF, tupleF, allF, MF.bools_map, ixD2, dgetD, dkey, eDct, ePs, putDct, keysD, mergeD, putD, valD]; omega
theorem iN0 {m : Nat} : L2.ixN (m + 1) 0 = some 0 := by unfold L2.ixN; simp [runD, sSeq, sRet, sIf, sSet, sEx, sSub, sNil, eVar, eC, eOp, eChain, tTruth, tBl, tNotM, tAndM, tOrM, eAndM, eOrM, eNotM, eIfM, aNil, aCons, eTup, eLst, mkLst, mkTup, eCB, eF, eSl, oPart, oNone, eUn, isB, truD, isiF, tyOf, subT, leD, ltD, gtD, geD, cmpD, lenF, lenN, neD, eqD, eqB, ofOpt, MM.keep, Res.bind, Res.toS, ixD, addD, subD, modD, fdivD, intF, List.replicate, setD, negD, mulD, sizeLine, sAsg, asg, asgs, items, sPar, n_add_mix, n_add_scale, n_add_swap, n_add_set, n_add_copy, n_mix_add, n_mix_scale, n_mix_swap, n_mix_set, n_mix_copy, n_scale_add, n_scale_mix, n_scale_swap, n_scale_set, n_scale_copy, n_swap_add, n_swap_mix, n_swap_scale, n_swap_set, n_swap_copy, n_set_add, n_set_mix, n_set_scale, n_set_swap, n_set_copy, n_copy_add, n_copy_mix, n_copy_scale, n_copy_swap, n_copy_set, i_add_addset, i_mix_addset, i_scale_addset, i_swap_addset, i_set_addset, i_copy_addset, i_add_setcopy, i_mix_setcopy, i_scale_setcopy, i_swap_setcopy, i_set_setcopy, i_copy_setcopy, i_add_mixcopy, i_mix_mixcopy, i_scale_mixcopy, i_swap_mixcopy, i_set_mixcopy, i_copy_mixcopy, MH.seq, listF, tupleF, allF, MF.bools_map, ixD2, dgetD, dkey, eDct, ePs, putDct, keysD, mergeD, putD, valD]
theorem iN2 {m : Nat} : L2.ixN (m + 3) 2 = some 2 := by unfold L2.ixN; simp [runD, sSeq, sRet, sIf, sSet, sEx, sSub, sNil, eVar, eC, eOp, eChain, tTruth, tBl, tNotM, tAndM, tOrM, eAndM, eOrM, eNotM, eIfM, aNil, aCons, eTup, eLst, mkLst, mkTup, eCB, eF, eSl, oPart, oNone, eUn, isB, truD, isiF, tyOf, subT, leD, ltD, gtD, geD, cmpD, lenF, lenN, neD, eqD, eqB, ofOpt, MM.keep, Res.bind, Res.toS, ixD, addD, subD, modD, fdivD, intF, List.replicate, setD, negD, mulD, sizeLine, sAsg, asg, asgs, items, sPar, n_add_mix, n_add_scale, n_add_swap, n_add_set, n_add_copy, n_mix_add, n_mix_scale, n_mix_swap, n_mix_set, n_mix_copy, n_scale_add, n_scale_mix, n_scale_swap, n_scale_set, n_scale_copy, n_swap_add, n_swap_mix, n_swap_scale, n_swap_set, n_swap_copy, n_set_add, n_set_mix, n_set_scale, n_set_swap, n_set_copy, n_copy_add, n_copy_mix, n_copy_scale, n_copy_swap, n_copy_set, i_add_addset, i_mix_addset, i_scale_addset, i_swap_addset, i_set_addset, i_copy_addset, i_add_setcopy, i_mix_setcopy, i_scale_setcopy, i_swap_setcopy, i_set_setcopy, i_copy_setcopy, i_add_mixcopy, i_mix_mixcopy, i_scale_mixcopy, i_swap_mixcopy, i_set_mixcopy, i_copy_mixcopy, MH.seq, listF, tupleF, allF, MF.bools_map, ixD2, dgetD, dkey, eDct, ePs, putDct, keysD, mergeD, putD, valD]; omega
theorem iN3 {m : Nat} : L2.ixN (m + 4) 3 = some 3 := by unfold L2.ixN; simp [runD, sSeq, sRet, sIf, sSet, sEx, sSub, sNil, eVar, eC, eOp, eChain, tTruth, tBl, tNotM, tAndM, tOrM, eAndM, eOrM, eNotM, eIfM, aNil, aCons, eTup, eLst, mkLst, mkTup, eCB, eF, eSl, oPart, oNone, eUn, isB, truD, isiF, tyOf, subT, leD, ltD, gtD, geD, cmpD, lenF, lenN, neD, eqD, eqB, ofOpt, MM.keep, Res.bind, Res.toS, ixD, addD, subD, modD, fdivD, intF, List.replicate, setD, negD, mulD, sizeLine, sAsg, asg, asgs, items, sPar, n_add_mix, n_add_scale, n_add_swap, n_add_set, n_add_copy, n_mix_add, n_mix_scale, n_mix_swap, n_mix_set, n_mix_copy, n_scale_add, n_scale_mix, n_scale_swap, n_scale_set, n_scale_copy, n_swap_add, n_swap_mix, n_swap_scale, n_swap_set, n_swap_copy, n_set_add, n_set_mix, n_set_scale, n_set_swap, n_set_copy, n_copy_add, n_copy_mix, n_copy_scale, n_copy_swap, n_copy_set, i_add_addset, i_mix_addset, i_scale_addset, i_swap_addset, i_set_addset, i_copy_addset, i_add_setcopy, i_mix_setcopy, i_scale_setcopy, i_swap_setcopy, i_set_setcopy, i_copy_setcopy, i_add_mixcopy, i_mix_mixcopy, i_scale_mixcopy, i_swap_mixcopy, i_set_mixcopy, i_copy_mixcopy, MH.seq, listF, tupleF, allF, MF.bools_map, ixD2, dgetD, dkey, eDct, ePs, putDct, keysD, mergeD, putD, valD]; omega
theorem aI0 (a : D) (l : List D) : L2.atI (a :: l) 0 = some a := by unfold L2.atI; simp [runD, sSeq, sRet, sIf, sSet, sEx, sSub, sNil, eVar, eC, eOp, eChain, tTruth, tBl, tNotM, tAndM, tOrM, eAndM, eOrM, eNotM, eIfM, aNil, aCons, eTup, eLst, mkLst, mkTup, eCB, eF, eSl, oPart, oNone, eUn, isB, truD, isiF, tyOf, subT, leD, ltD, gtD, geD, cmpD, lenF, lenN, neD, eqD, eqB, ofOpt, MM.keep, Res.bind, Res.toS, ixD, addD, subD, modD, fdivD, intF, List.replicate, setD, negD, mulD, sizeLine, sAsg, asg, asgs, items, sPar, n_add_mix, n_add_scale, n_add_swap, n_add_set, n_add_copy, n_mix_add, n_mix_scale, n_mix_swap, n_mix_set, n_mix_copy, n_scale_add, n_scale_mix, n_scale_swap, n_scale_set, n_scale_copy, n_swap_add, n_swap_mix, n_swap_scale, n_swap_set, n_swap_copy, n_set_add, n_set_mix, n_set_scale, n_set_swap, n_set_copy, n_copy_add, n_copy_mix, n_copy_scale, n_copy_swap, n_copy_set, i_add_addset, i_mix_addset, i_scale_addset, i_swap_addset, i_set_addset, i_copy_addset, i_add_setcopy, i_mix_setcopy, i_scale_setcopy, i_swap_setcopy, i_set_setcopy, i_copy_setcopy, i_add_mixcopy, i_mix_mixcopy, i_scale_mixcopy, i_swap_mixcopy, i_set_mixcopy, i_copy_mixcopy, MH.seq, listF, tupleF, allF, MF.bools_map, ixD2, dgetD, dkey, eDct, ePs, putDct, keysD, mergeD, putD, valD, iN0]
theorem aI1 (a b : D) (l : List D) : L2.atI (a :: b :: l) 1 = some b := by unfold L2.atI; simp [runD, sSeq, sRet, sIf, sSet, sEx, sSub, sNil, eVar, eC, eOp, eChain, tTruth, tBl, tNotM, tAndM, tOrM, eAndM, eOrM, eNotM, eIfM, aNil, aCons, eTup, eLst, mkLst, mkTup, eCB, eF, eSl, oPart, oNone, eUn, isB, truD, isiF, tyOf, subT, leD, ltD, gtD, geD, cmpD, lenF, lenN, neD, eqD, eqB, ofOpt, MM.keep, Res.bind, Res.toS, ixD, addD, subD, modD, fdivD, intF, List.replicate, setD, negD, mulD, sizeLine, sAsg, asg, asgs, items, sPar, n_add_mix, n_add_scale, n_add_swap, n_add_set, n_add_copy, n_mix_add, n_mix_scale, n_mix_swap, n_mix_set, n_mix_copy, n_scale_add, n_scale_mix, n_scale_swap, n_scale_set, n_scale_copy, n_swap_add, n_swap_mix, n_swap_scale, n_swap_set, n_swap_copy, n_set_add, n_set_mix, n_set_scale, n_set_swap, n_set_copy, n_copy_add, n_copy_mix, n_copy_scale, n_copy_swap, n_copy_set, i_add_addset, i_mix_addset, i_scale_addset, i_swap_addset, i_set_addset, i_copy_addset, i_add_setcopy, i_mix_setcopy, i_scale_setcopy, i_swap_setcopy, i_set_setcopy, i_copy_setcopy, i_add_mixcopy, i_mix_mixcopy, i_scale_mixcopy, i_swap_mixcopy, i_set_mixcopy, i_copy_mixcopy, MH.seq, listF, tupleF, allF, MF.bools_map, ixD2, dgetD, dkey, eDct, ePs, putDct, keysD, mergeD, putD, valD, iN1]
theorem aI2 (a b c : D) (l : List D) : L2.atI (a :: b :: c :: l) 2 = some c := by unfold L2.atI; simp [runD, sSeq, sRet, sIf, sSet, sEx, sSub, sNil, eVar, eC, eOp, eChain, tTruth, tBl, tNotM, tAndM, tOrM, eAndM, eOrM, eNotM, eIfM, aNil, aCons, eTup, eLst, mkLst, mkTup, eCB, eF, eSl, oPart, oNone, eUn, isB, truD, isiF, tyOf, subT, leD, ltD, gtD, geD, cmpD, lenF, lenN, neD, eqD, eqB, ofOpt, MM.keep, Res.bind, Res.toS, ixD, addD, subD, modD, fdivD, intF, List.replicate, setD, negD, mulD, sizeLine, sAsg, asg, asgs, items, sPar, n_add_mix, n_add_scale, n_add_swap, n_add_set, n_add_copy, n_mix_add, n_mix_scale, n_mix_swap, n_mix_set, n_mix_copy, n_scale_add, n_scale_mix, n_scale_swap, n_scale_set, n_scale_copy, n_swap_add, n_swap_mix, n_swap_scale, n_swap_set, n_swap_copy, n_set_add, n_set_mix, n_set_scale, n_set_swap, n_set_copy, n_copy_add, n_copy_mix, n_copy_scale, n_copy_swap, n_copy_set, i_add_addset, i_mix_addset, i_scale_addset, i_swap_addset, i_set_addset, i_copy_addset, i_add_setcopy, i_mix_setcopy, i_scale_setcopy, i_swap_setcopy, i_set_setcopy, i_copy_setcopy, i_add_mixcopy, i_mix_mixcopy, i_scale_mixcopy, i_swap_mixcopy, i_set_mixcopy, i_copy_mixcopy, MH.seq, listF, tupleF, allF, MF.bools_map, ixD2, dgetD, dkey, eDct, ePs, putDct, keysD, mergeD, putD, valD, iN2]
theorem aI3 (a b c d : D) (l : List D) : L2.atI (a :: b :: c :: d :: l) 3 = some d := by unfold L2.atI; simp [runD, sSeq, sRet, sIf, sSet, sEx, sSub, sNil, eVar, eC, eOp, eChain, tTruth, tBl, tNotM, tAndM, tOrM, eAndM, eOrM, eNotM, eIfM, aNil, aCons, eTup, eLst, mkLst, mkTup, eCB, eF, eSl, oPart, oNone, eUn, isB, truD, isiF, tyOf, subT, leD, ltD, gtD, geD, cmpD, lenF, lenN, neD, eqD, eqB, ofOpt, MM.keep, Res.bind, Res.toS, ixD, addD, subD, modD, fdivD, intF, List.replicate, setD, negD, mulD, sizeLine, sAsg, asg, asgs, items, sPar, n_add_mix, n_add_scale, n_add_swap, n_add_set, n_add_copy, n_mix_add, n_mix_scale, n_mix_swap, n_mix_set, n_mix_copy, n_scale_add, n_scale_mix, n_scale_swap, n_scale_set, n_scale_copy, n_swap_add, n_swap_mix, n_swap_scale, n_swap_set, n_swap_copy, n_set_add, n_set_mix, n_set_scale, n_set_swap, n_set_copy, n_copy_add, n_copy_mix, n_copy_scale, n_copy_swap, n_copy_set, i_add_addset, i_mix_addset, i_scale_addset, i_swap_addset, i_set_addset, i_copy_addset, i_add_setcopy, i_mix_setcopy, i_scale_setcopy, i_swap_setcopy, i_set_setcopy, i_copy_setcopy, i_add_mixcopy, i_mix_mixcopy, i_scale_mixcopy, i_swap_mixcopy, i_set_mixcopy, i_copy_mixcopy, MH.seq, listF, tupleF, allF, MF.bools_map, ixD2, dgetD, dkey, eDct, ePs, putDct, keysD, mergeD, putD, valD, iN3]
theorem get1 {h : MH} (n1 : h.n = 1) (o : O) : (h.add o).get 1 = some o := by have := MH.get_add_same h o; rwa [n1] at this
theorem gn1 (o o' : O) : ((MH.nil.add o).add o').get 1 = some o' := get1 rfl o'
theorem gn0 (o o' : O) : ((MH.nil.add o).add o').get 0 = some o := by rw [MH.get_add_ne _ _ (show 0 ≠ MH.nil.n + 1 from by decide)]; exact MH.get_add_same MH.nil o
theorem gn00 (o : O) : (MH.nil.add o).get 0 = some o := MH.get_add_same MH.nil o
theorem gs10 (h : MH) (o : O) : (h.set 1 o).get 0 = h.get 0 := MH.get_set_ne _ _ (by decide)
theorem gs01 (h : MH) (o : O) : (h.set 0 o).get 1 = h.get 1 := MH.get_set_ne _ _ (by decide)
theorem at_dig {bs ds : List Int} (ok : Ok bs ds) {k : Nat} (h : k < bs.length) : 0 ≤ at_ ds k ∧ at_ ds k < at_ bs k ∧ 2 ≤ at_ bs k ∧ at_ bs k ≤ 5 := by
  have h1 : k < ds.length := by rw [ok.len]; exact h
  have := ok.dig k h1 h
  have := ok.base k h
  simp [runD, sSeq, sRet, sIf, sSet, sEx, sSub, sNil, eVar, eC, eOp, eChain, tTruth, tBl, tNotM, tAndM, tOrM, eAndM, eOrM, eNotM, eIfM, aNil, aCons, eTup, eLst, mkLst, mkTup, eCB, eF, eSl, oPart, oNone, eUn, isB, truD, isiF, tyOf, subT, leD, ltD, gtD, geD, cmpD, lenF, lenN, neD, eqD, eqB, ofOpt, MM.keep, Res.bind, Res.toS, ixD, addD, subD, modD, fdivD, intF, List.replicate, setD, negD, mulD, sizeLine, sAsg, asg, asgs, items, sPar, n_add_mix, n_add_scale, n_add_swap, n_add_set, n_add_copy, n_mix_add, n_mix_scale, n_mix_swap, n_mix_set, n_mix_copy, n_scale_add, n_scale_mix, n_scale_swap, n_scale_set, n_scale_copy, n_swap_add, n_swap_mix, n_swap_scale, n_swap_set, n_swap_copy, n_set_add, n_set_mix, n_set_scale, n_set_swap, n_set_copy, n_copy_add, n_copy_mix, n_copy_scale, n_copy_swap, n_copy_set, i_add_addset, i_mix_addset, i_scale_addset, i_swap_addset, i_set_addset, i_copy_addset, i_add_setcopy, i_mix_setcopy, i_scale_setcopy, i_swap_setcopy, i_set_setcopy, i_copy_setcopy, i_add_mixcopy, i_mix_mixcopy, i_scale_mixcopy, i_swap_mixcopy, i_set_mixcopy, i_copy_mixcopy, MH.seq, listF, tupleF, allF, MF.bools_map, ixD2, dgetD, dkey, eDct, ePs, putDct, keysD, mergeD, putD, valD, gn1, gn0, gn00, gs10, gs01, aI0, aI1, aI2, aI3, at_, h, h1]
  omega
theorem small {i : Int} (h0 : 0 ≤ i) (h1 : i < 100) : MM.small64 i = true := by unfold MM.small64; exact Nat.ble_eq_true_of_le (by omega)
theorem hold {bs ds : List Int} (ok : Ok bs ds) {act : List D} (a : Act bs act) {cs : List (Nat × Int)} (hc : Conds ds.length cs) (ha : (holds ds cs).all id = true) :
    ∃ (rs : List Int) (h1 h2 : MH), m_done [.tup (bs.map .int), .tup [.tup act, .tup (cD cs)], .tup (ds.map .int)] MH.nil = .ok (.tup (rs.map .int)) h1 ∧ m__law_act [.tup (bs.map .int), .tup [.tup act, .tup (cD cs)], .tup (ds.map .int)] MH.nil = .ok (.tup (rs.map .int)) h2 ∧
      rs.length = ds.length ∧ ∀ v ∈ rs, 0 ≤ v ∧ v < 70 := by
  obtain ⟨g1, e1, n1, z1⟩ := cond1 hc (some (.tup (bs.map .int))) (some (.tup [.tup act, .tup (cD cs)])) (some (.tup act))
  obtain ⟨e2, l2, a2, b2, rfl⟩ := (cond2 hc (some (.tup (bs.map .int))) (some (.tup [.tup act, .tup (cD cs)])) (some (.tup act)) [some (.tup (bs.map .int)), some (.tup [.tup act, .tup (cD cs)]), some (.tup (ds.map .int)), some (.tup act), some (.tup (cD cs)), none, none, none, none, none] rfl rfl).1 ha
  have low : ∀ v ∈ ds, 0 ≤ v ∧ v < 70 := fun v hv => by
    obtain ⟨k, hk, rfl⟩ := List.mem_iff_getElem.mp hv
    have := ok.dig k hk (by rw [← ok.len]; exact hk)
    have := ok.base k (by rw [← ok.len]; exact hk)
    omega
  have n0 : MH.nil.n = 0 := rfl
  have ll := ok.len
  cases a with
  | @add i c hi c0 c1 =>
    obtain ⟨d1, d2, d3, d4⟩ := at_dig ok hi
    have hi' : i < ds.length := by omega
    have x1 := ix_at (ds := ds) hi'
    have x2 := ix_at (ds := bs) hi
    have x3 := ixN_at hi'
    have p : 0 < at_ bs i := by omega
    have sd := small d1 (by omega)
    refine ⟨ds.set i ((at_ ds i + c) % at_ bs i), ?_, ?_, ?_, ?_, by simp [runD, sSeq, sRet, sIf, sSet, sEx, sSub, sNil, eVar, eC, eOp, eChain, tTruth, tBl, tNotM, tAndM, tOrM, eAndM, eOrM, eNotM, eIfM, aNil, aCons, eTup, eLst, mkLst, mkTup, eCB, eF, eSl, oPart, oNone, eUn, isB, truD, isiF, tyOf, subT, leD, ltD, gtD, geD, cmpD, lenF, lenN, neD, eqD, eqB, ofOpt, MM.keep, Res.bind, Res.toS, ixD, addD, subD, modD, fdivD, intF, List.replicate, setD, negD, mulD, sizeLine, sAsg, asg, asgs, items, sPar, n_add_mix, n_add_scale, n_add_swap, n_add_set, n_add_copy, n_mix_add, n_mix_scale, n_mix_swap, n_mix_set, n_mix_copy, n_scale_add, n_scale_mix, n_scale_swap, n_scale_set, n_scale_copy, n_swap_add, n_swap_mix, n_swap_scale, n_swap_set, n_swap_copy, n_set_add, n_set_mix, n_set_scale, n_set_swap, n_set_copy, n_copy_add, n_copy_mix, n_copy_scale, n_copy_swap, n_copy_set, i_add_addset, i_mix_addset, i_scale_addset, i_swap_addset, i_set_addset, i_copy_addset, i_add_setcopy, i_mix_setcopy, i_scale_setcopy, i_swap_setcopy, i_set_setcopy, i_copy_setcopy, i_add_mixcopy, i_mix_mixcopy, i_scale_mixcopy, i_swap_mixcopy, i_set_mixcopy, i_copy_mixcopy, MH.seq, listF, tupleF, allF, MF.bools_map, ixD2, dgetD, dkey, eDct, ePs, putDct, keysD, mergeD, putD, valD, gn1, gn0, gn00, gs10, gs01, aI0, aI1, aI2, aI3], fun v hv => ?_⟩
    rotate_left 2
    · unfold m_done b_done m__new_digit b__new_digit
      simp [runD, sSeq, sRet, sIf, sSet, sEx, sSub, sNil, eVar, eC, eOp, eChain, tTruth, tBl, tNotM, tAndM, tOrM, eAndM, eOrM, eNotM, eIfM, aNil, aCons, eTup, eLst, mkLst, mkTup, eCB, eF, eSl, oPart, oNone, eUn, isB, truD, isiF, tyOf, subT, leD, ltD, gtD, geD, cmpD, lenF, lenN, neD, eqD, eqB, ofOpt, MM.keep, Res.bind, Res.toS, ixD, addD, subD, modD, fdivD, intF, List.replicate, setD, negD, mulD, sizeLine, sAsg, asg, asgs, items, sPar, n_add_mix, n_add_scale, n_add_swap, n_add_set, n_add_copy, n_mix_add, n_mix_scale, n_mix_swap, n_mix_set, n_mix_copy, n_scale_add, n_scale_mix, n_scale_swap, n_scale_set, n_scale_copy, n_swap_add, n_swap_mix, n_swap_scale, n_swap_set, n_swap_copy, n_set_add, n_set_mix, n_set_scale, n_set_swap, n_set_copy, n_copy_add, n_copy_mix, n_copy_scale, n_copy_swap, n_copy_set, i_add_addset, i_mix_addset, i_scale_addset, i_swap_addset, i_set_addset, i_copy_addset, i_add_setcopy, i_mix_setcopy, i_scale_setcopy, i_swap_setcopy, i_set_setcopy, i_copy_setcopy, i_add_mixcopy, i_mix_mixcopy, i_scale_mixcopy, i_swap_mixcopy, i_set_mixcopy, i_copy_mixcopy, MH.seq, listF, tupleF, allF, MF.bools_map, ixD2, dgetD, dkey, eDct, ePs, putDct, keysD, mergeD, putD, valD, gn1, gn0, gn00, gs10, gs01, aI0, aI1, aI2, aI3, e1, z1, n1, ha, x1, x2, x3, p, get1 n1, sd]
      rfl
    · unfold m__law_act b__law_act
      simp [runD, sSeq, sRet, sIf, sSet, sEx, sSub, sNil, eVar, eC, eOp, eChain, tTruth, tBl, tNotM, tAndM, tOrM, eAndM, eOrM, eNotM, eIfM, aNil, aCons, eTup, eLst, mkLst, mkTup, eCB, eF, eSl, oPart, oNone, eUn, isB, truD, isiF, tyOf, subT, leD, ltD, gtD, geD, cmpD, lenF, lenN, neD, eqD, eqB, ofOpt, MM.keep, Res.bind, Res.toS, ixD, addD, subD, modD, fdivD, intF, List.replicate, setD, negD, mulD, sizeLine, sAsg, asg, asgs, items, sPar, n_add_mix, n_add_scale, n_add_swap, n_add_set, n_add_copy, n_mix_add, n_mix_scale, n_mix_swap, n_mix_set, n_mix_copy, n_scale_add, n_scale_mix, n_scale_swap, n_scale_set, n_scale_copy, n_swap_add, n_swap_mix, n_swap_scale, n_swap_set, n_swap_copy, n_set_add, n_set_mix, n_set_scale, n_set_swap, n_set_copy, n_copy_add, n_copy_mix, n_copy_scale, n_copy_swap, n_copy_set, i_add_addset, i_mix_addset, i_scale_addset, i_swap_addset, i_set_addset, i_copy_addset, i_add_setcopy, i_mix_setcopy, i_scale_setcopy, i_swap_setcopy, i_set_setcopy, i_copy_setcopy, i_add_mixcopy, i_mix_mixcopy, i_scale_mixcopy, i_swap_mixcopy, i_set_mixcopy, i_copy_mixcopy, MH.seq, listF, tupleF, allF, MF.bools_map, ixD2, dgetD, dkey, eDct, ePs, putDct, keysD, mergeD, putD, valD, gn1, gn0, gn00, gs10, gs01, aI0, aI1, aI2, aI3, sFor, iSeq, MI.n, l2, n0, x1, x2, x3, p, sd]
      rfl
    · rcases List.mem_or_eq_of_mem_set hv with z | rfl
      · exact low v z
      · have q1 := Int.emod_nonneg (at_ ds i + c) (show at_ bs i ≠ 0 by omega)
        have q2 := Int.emod_lt_of_pos (at_ ds i + c) p
        omega
  | @mix i j c hi hj c0 c1 =>
    obtain ⟨d1, d2, d3, d4⟩ := at_dig ok hi
    have hi' : i < ds.length := by omega
    have x1 := ix_at (ds := ds) hi'
    have x2 := ix_at (ds := bs) hi
    have x3 := ixN_at hi'
    have p : 0 < at_ bs i := by omega
    have sd := small d1 (by omega)
    obtain ⟨f1, f2, f3, f4⟩ := at_dig ok hj
    have hj' : j < ds.length := by omega
    have y1 := ix_at (ds := ds) hj'
    have y3 := ixN_at hj'
    have sf := small f1 (by omega)
    have sc := small c0 (by omega)
    have cm : c * at_ ds j = at_ ds j * c := Int.mul_comm _ _
    refine ⟨ds.set i ((at_ ds i + at_ ds j * c) % at_ bs i), ?_, ?_, ?_, ?_, by simp [runD, sSeq, sRet, sIf, sSet, sEx, sSub, sNil, eVar, eC, eOp, eChain, tTruth, tBl, tNotM, tAndM, tOrM, eAndM, eOrM, eNotM, eIfM, aNil, aCons, eTup, eLst, mkLst, mkTup, eCB, eF, eSl, oPart, oNone, eUn, isB, truD, isiF, tyOf, subT, leD, ltD, gtD, geD, cmpD, lenF, lenN, neD, eqD, eqB, ofOpt, MM.keep, Res.bind, Res.toS, ixD, addD, subD, modD, fdivD, intF, List.replicate, setD, negD, mulD, sizeLine, sAsg, asg, asgs, items, sPar, n_add_mix, n_add_scale, n_add_swap, n_add_set, n_add_copy, n_mix_add, n_mix_scale, n_mix_swap, n_mix_set, n_mix_copy, n_scale_add, n_scale_mix, n_scale_swap, n_scale_set, n_scale_copy, n_swap_add, n_swap_mix, n_swap_scale, n_swap_set, n_swap_copy, n_set_add, n_set_mix, n_set_scale, n_set_swap, n_set_copy, n_copy_add, n_copy_mix, n_copy_scale, n_copy_swap, n_copy_set, i_add_addset, i_mix_addset, i_scale_addset, i_swap_addset, i_set_addset, i_copy_addset, i_add_setcopy, i_mix_setcopy, i_scale_setcopy, i_swap_setcopy, i_set_setcopy, i_copy_setcopy, i_add_mixcopy, i_mix_mixcopy, i_scale_mixcopy, i_swap_mixcopy, i_set_mixcopy, i_copy_mixcopy, MH.seq, listF, tupleF, allF, MF.bools_map, ixD2, dgetD, dkey, eDct, ePs, putDct, keysD, mergeD, putD, valD, gn1, gn0, gn00, gs10, gs01, aI0, aI1, aI2, aI3], fun v hv => ?_⟩
    rotate_left 2
    · unfold m_done b_done m__new_digit b__new_digit
      simp [runD, sSeq, sRet, sIf, sSet, sEx, sSub, sNil, eVar, eC, eOp, eChain, tTruth, tBl, tNotM, tAndM, tOrM, eAndM, eOrM, eNotM, eIfM, aNil, aCons, eTup, eLst, mkLst, mkTup, eCB, eF, eSl, oPart, oNone, eUn, isB, truD, isiF, tyOf, subT, leD, ltD, gtD, geD, cmpD, lenF, lenN, neD, eqD, eqB, ofOpt, MM.keep, Res.bind, Res.toS, ixD, addD, subD, modD, fdivD, intF, List.replicate, setD, negD, mulD, sizeLine, sAsg, asg, asgs, items, sPar, n_add_mix, n_add_scale, n_add_swap, n_add_set, n_add_copy, n_mix_add, n_mix_scale, n_mix_swap, n_mix_set, n_mix_copy, n_scale_add, n_scale_mix, n_scale_swap, n_scale_set, n_scale_copy, n_swap_add, n_swap_mix, n_swap_scale, n_swap_set, n_swap_copy, n_set_add, n_set_mix, n_set_scale, n_set_swap, n_set_copy, n_copy_add, n_copy_mix, n_copy_scale, n_copy_swap, n_copy_set, i_add_addset, i_mix_addset, i_scale_addset, i_swap_addset, i_set_addset, i_copy_addset, i_add_setcopy, i_mix_setcopy, i_scale_setcopy, i_swap_setcopy, i_set_setcopy, i_copy_setcopy, i_add_mixcopy, i_mix_mixcopy, i_scale_mixcopy, i_swap_mixcopy, i_set_mixcopy, i_copy_mixcopy, MH.seq, listF, tupleF, allF, MF.bools_map, ixD2, dgetD, dkey, eDct, ePs, putDct, keysD, mergeD, putD, valD, gn1, gn0, gn00, gs10, gs01, aI0, aI1, aI2, aI3, e1, z1, n1, ha, x1, x2, x3, p, get1 n1, sd, y1, sf, sc, cm]
      rfl
    · unfold m__law_act b__law_act
      simp [runD, sSeq, sRet, sIf, sSet, sEx, sSub, sNil, eVar, eC, eOp, eChain, tTruth, tBl, tNotM, tAndM, tOrM, eAndM, eOrM, eNotM, eIfM, aNil, aCons, eTup, eLst, mkLst, mkTup, eCB, eF, eSl, oPart, oNone, eUn, isB, truD, isiF, tyOf, subT, leD, ltD, gtD, geD, cmpD, lenF, lenN, neD, eqD, eqB, ofOpt, MM.keep, Res.bind, Res.toS, ixD, addD, subD, modD, fdivD, intF, List.replicate, setD, negD, mulD, sizeLine, sAsg, asg, asgs, items, sPar, n_add_mix, n_add_scale, n_add_swap, n_add_set, n_add_copy, n_mix_add, n_mix_scale, n_mix_swap, n_mix_set, n_mix_copy, n_scale_add, n_scale_mix, n_scale_swap, n_scale_set, n_scale_copy, n_swap_add, n_swap_mix, n_swap_scale, n_swap_set, n_swap_copy, n_set_add, n_set_mix, n_set_scale, n_set_swap, n_set_copy, n_copy_add, n_copy_mix, n_copy_scale, n_copy_swap, n_copy_set, i_add_addset, i_mix_addset, i_scale_addset, i_swap_addset, i_set_addset, i_copy_addset, i_add_setcopy, i_mix_setcopy, i_scale_setcopy, i_swap_setcopy, i_set_setcopy, i_copy_setcopy, i_add_mixcopy, i_mix_mixcopy, i_scale_mixcopy, i_swap_mixcopy, i_set_mixcopy, i_copy_mixcopy, MH.seq, listF, tupleF, allF, MF.bools_map, ixD2, dgetD, dkey, eDct, ePs, putDct, keysD, mergeD, putD, valD, gn1, gn0, gn00, gs10, gs01, aI0, aI1, aI2, aI3, sFor, iSeq, MI.n, l2, n0, x1, x2, x3, p, sd, y1, sf, sc, cm]
      rfl
    · rcases List.mem_or_eq_of_mem_set hv with z | rfl
      · exact low v z
      · have q1 := Int.emod_nonneg (at_ ds i + at_ ds j * c) (show at_ bs i ≠ 0 by omega)
        have q2 := Int.emod_lt_of_pos (at_ ds i + at_ ds j * c) p
        omega
  | @scale i c hi c0 c1 =>
    obtain ⟨d1, d2, d3, d4⟩ := at_dig ok hi
    have hi' : i < ds.length := by omega
    have x1 := ix_at (ds := ds) hi'
    have x2 := ix_at (ds := bs) hi
    have x3 := ixN_at hi'
    have p : 0 < at_ bs i := by omega
    have sd := small d1 (by omega)
    have sc := small c0 (by omega)
    refine ⟨ds.set i ((at_ ds i * c) % at_ bs i), ?_, ?_, ?_, ?_, by simp [runD, sSeq, sRet, sIf, sSet, sEx, sSub, sNil, eVar, eC, eOp, eChain, tTruth, tBl, tNotM, tAndM, tOrM, eAndM, eOrM, eNotM, eIfM, aNil, aCons, eTup, eLst, mkLst, mkTup, eCB, eF, eSl, oPart, oNone, eUn, isB, truD, isiF, tyOf, subT, leD, ltD, gtD, geD, cmpD, lenF, lenN, neD, eqD, eqB, ofOpt, MM.keep, Res.bind, Res.toS, ixD, addD, subD, modD, fdivD, intF, List.replicate, setD, negD, mulD, sizeLine, sAsg, asg, asgs, items, sPar, n_add_mix, n_add_scale, n_add_swap, n_add_set, n_add_copy, n_mix_add, n_mix_scale, n_mix_swap, n_mix_set, n_mix_copy, n_scale_add, n_scale_mix, n_scale_swap, n_scale_set, n_scale_copy, n_swap_add, n_swap_mix, n_swap_scale, n_swap_set, n_swap_copy, n_set_add, n_set_mix, n_set_scale, n_set_swap, n_set_copy, n_copy_add, n_copy_mix, n_copy_scale, n_copy_swap, n_copy_set, i_add_addset, i_mix_addset, i_scale_addset, i_swap_addset, i_set_addset, i_copy_addset, i_add_setcopy, i_mix_setcopy, i_scale_setcopy, i_swap_setcopy, i_set_setcopy, i_copy_setcopy, i_add_mixcopy, i_mix_mixcopy, i_scale_mixcopy, i_swap_mixcopy, i_set_mixcopy, i_copy_mixcopy, MH.seq, listF, tupleF, allF, MF.bools_map, ixD2, dgetD, dkey, eDct, ePs, putDct, keysD, mergeD, putD, valD, gn1, gn0, gn00, gs10, gs01, aI0, aI1, aI2, aI3], fun v hv => ?_⟩
    rotate_left 2
    · unfold m_done b_done m__new_digit b__new_digit
      simp [runD, sSeq, sRet, sIf, sSet, sEx, sSub, sNil, eVar, eC, eOp, eChain, tTruth, tBl, tNotM, tAndM, tOrM, eAndM, eOrM, eNotM, eIfM, aNil, aCons, eTup, eLst, mkLst, mkTup, eCB, eF, eSl, oPart, oNone, eUn, isB, truD, isiF, tyOf, subT, leD, ltD, gtD, geD, cmpD, lenF, lenN, neD, eqD, eqB, ofOpt, MM.keep, Res.bind, Res.toS, ixD, addD, subD, modD, fdivD, intF, List.replicate, setD, negD, mulD, sizeLine, sAsg, asg, asgs, items, sPar, n_add_mix, n_add_scale, n_add_swap, n_add_set, n_add_copy, n_mix_add, n_mix_scale, n_mix_swap, n_mix_set, n_mix_copy, n_scale_add, n_scale_mix, n_scale_swap, n_scale_set, n_scale_copy, n_swap_add, n_swap_mix, n_swap_scale, n_swap_set, n_swap_copy, n_set_add, n_set_mix, n_set_scale, n_set_swap, n_set_copy, n_copy_add, n_copy_mix, n_copy_scale, n_copy_swap, n_copy_set, i_add_addset, i_mix_addset, i_scale_addset, i_swap_addset, i_set_addset, i_copy_addset, i_add_setcopy, i_mix_setcopy, i_scale_setcopy, i_swap_setcopy, i_set_setcopy, i_copy_setcopy, i_add_mixcopy, i_mix_mixcopy, i_scale_mixcopy, i_swap_mixcopy, i_set_mixcopy, i_copy_mixcopy, MH.seq, listF, tupleF, allF, MF.bools_map, ixD2, dgetD, dkey, eDct, ePs, putDct, keysD, mergeD, putD, valD, gn1, gn0, gn00, gs10, gs01, aI0, aI1, aI2, aI3, e1, z1, n1, ha, x1, x2, x3, p, get1 n1, sd, sc]
      rfl
    · unfold m__law_act b__law_act
      simp [runD, sSeq, sRet, sIf, sSet, sEx, sSub, sNil, eVar, eC, eOp, eChain, tTruth, tBl, tNotM, tAndM, tOrM, eAndM, eOrM, eNotM, eIfM, aNil, aCons, eTup, eLst, mkLst, mkTup, eCB, eF, eSl, oPart, oNone, eUn, isB, truD, isiF, tyOf, subT, leD, ltD, gtD, geD, cmpD, lenF, lenN, neD, eqD, eqB, ofOpt, MM.keep, Res.bind, Res.toS, ixD, addD, subD, modD, fdivD, intF, List.replicate, setD, negD, mulD, sizeLine, sAsg, asg, asgs, items, sPar, n_add_mix, n_add_scale, n_add_swap, n_add_set, n_add_copy, n_mix_add, n_mix_scale, n_mix_swap, n_mix_set, n_mix_copy, n_scale_add, n_scale_mix, n_scale_swap, n_scale_set, n_scale_copy, n_swap_add, n_swap_mix, n_swap_scale, n_swap_set, n_swap_copy, n_set_add, n_set_mix, n_set_scale, n_set_swap, n_set_copy, n_copy_add, n_copy_mix, n_copy_scale, n_copy_swap, n_copy_set, i_add_addset, i_mix_addset, i_scale_addset, i_swap_addset, i_set_addset, i_copy_addset, i_add_setcopy, i_mix_setcopy, i_scale_setcopy, i_swap_setcopy, i_set_setcopy, i_copy_setcopy, i_add_mixcopy, i_mix_mixcopy, i_scale_mixcopy, i_swap_mixcopy, i_set_mixcopy, i_copy_mixcopy, MH.seq, listF, tupleF, allF, MF.bools_map, ixD2, dgetD, dkey, eDct, ePs, putDct, keysD, mergeD, putD, valD, gn1, gn0, gn00, gs10, gs01, aI0, aI1, aI2, aI3, sFor, iSeq, MI.n, l2, n0, x1, x2, x3, p, sd, sc]
      rfl
    · rcases List.mem_or_eq_of_mem_set hv with z | rfl
      · exact low v z
      · have q1 := Int.emod_nonneg (at_ ds i * c) (show at_ bs i ≠ 0 by omega)
        have q2 := Int.emod_lt_of_pos (at_ ds i * c) p
        omega
  | @swap i j hi hj hb =>
    obtain ⟨d1, d2, d3, d4⟩ := at_dig ok hi
    have hi' : i < ds.length := by omega
    have x1 := ix_at (ds := ds) hi'
    have x2 := ix_at (ds := bs) hi
    have x3 := ixN_at hi'
    have p : 0 < at_ bs i := by omega
    have sd := small d1 (by omega)
    obtain ⟨f1, f2, f3, f4⟩ := at_dig ok hj
    have hj' : j < ds.length := by omega
    have y1 := ix_at (ds := ds) hj'
    have y3 := ixN_at hj'
    have sf := small f1 (by omega)
    have em : at_ ds j % at_ bs i = at_ ds j := Int.emod_eq_of_lt f1 (by omega)
    refine ⟨(ds.set i (at_ ds j)).set j (at_ ds i), ?_, ?_, ?_, ?_, by simp [runD, sSeq, sRet, sIf, sSet, sEx, sSub, sNil, eVar, eC, eOp, eChain, tTruth, tBl, tNotM, tAndM, tOrM, eAndM, eOrM, eNotM, eIfM, aNil, aCons, eTup, eLst, mkLst, mkTup, eCB, eF, eSl, oPart, oNone, eUn, isB, truD, isiF, tyOf, subT, leD, ltD, gtD, geD, cmpD, lenF, lenN, neD, eqD, eqB, ofOpt, MM.keep, Res.bind, Res.toS, ixD, addD, subD, modD, fdivD, intF, List.replicate, setD, negD, mulD, sizeLine, sAsg, asg, asgs, items, sPar, n_add_mix, n_add_scale, n_add_swap, n_add_set, n_add_copy, n_mix_add, n_mix_scale, n_mix_swap, n_mix_set, n_mix_copy, n_scale_add, n_scale_mix, n_scale_swap, n_scale_set, n_scale_copy, n_swap_add, n_swap_mix, n_swap_scale, n_swap_set, n_swap_copy, n_set_add, n_set_mix, n_set_scale, n_set_swap, n_set_copy, n_copy_add, n_copy_mix, n_copy_scale, n_copy_swap, n_copy_set, i_add_addset, i_mix_addset, i_scale_addset, i_swap_addset, i_set_addset, i_copy_addset, i_add_setcopy, i_mix_setcopy, i_scale_setcopy, i_swap_setcopy, i_set_setcopy, i_copy_setcopy, i_add_mixcopy, i_mix_mixcopy, i_scale_mixcopy, i_swap_mixcopy, i_set_mixcopy, i_copy_mixcopy, MH.seq, listF, tupleF, allF, MF.bools_map, ixD2, dgetD, dkey, eDct, ePs, putDct, keysD, mergeD, putD, valD, gn1, gn0, gn00, gs10, gs01, aI0, aI1, aI2, aI3], fun v hv => ?_⟩
    rotate_left 2
    · unfold m_done b_done m__new_digit b__new_digit
      simp [runD, sSeq, sRet, sIf, sSet, sEx, sSub, sNil, eVar, eC, eOp, eChain, tTruth, tBl, tNotM, tAndM, tOrM, eAndM, eOrM, eNotM, eIfM, aNil, aCons, eTup, eLst, mkLst, mkTup, eCB, eF, eSl, oPart, oNone, eUn, isB, truD, isiF, tyOf, subT, leD, ltD, gtD, geD, cmpD, lenF, lenN, neD, eqD, eqB, ofOpt, MM.keep, Res.bind, Res.toS, ixD, addD, subD, modD, fdivD, intF, List.replicate, setD, negD, mulD, sizeLine, sAsg, asg, asgs, items, sPar, n_add_mix, n_add_scale, n_add_swap, n_add_set, n_add_copy, n_mix_add, n_mix_scale, n_mix_swap, n_mix_set, n_mix_copy, n_scale_add, n_scale_mix, n_scale_swap, n_scale_set, n_scale_copy, n_swap_add, n_swap_mix, n_swap_scale, n_swap_set, n_swap_copy, n_set_add, n_set_mix, n_set_scale, n_set_swap, n_set_copy, n_copy_add, n_copy_mix, n_copy_scale, n_copy_swap, n_copy_set, i_add_addset, i_mix_addset, i_scale_addset, i_swap_addset, i_set_addset, i_copy_addset, i_add_setcopy, i_mix_setcopy, i_scale_setcopy, i_swap_setcopy, i_set_setcopy, i_copy_setcopy, i_add_mixcopy, i_mix_mixcopy, i_scale_mixcopy, i_swap_mixcopy, i_set_mixcopy, i_copy_mixcopy, MH.seq, listF, tupleF, allF, MF.bools_map, ixD2, dgetD, dkey, eDct, ePs, putDct, keysD, mergeD, putD, valD, gn1, gn0, gn00, gs10, gs01, aI0, aI1, aI2, aI3, e1, z1, n1, ha, x1, x2, x3, p, get1 n1, sd, y1, y3, em]
      rfl
    · unfold m__law_act b__law_act
      simp [runD, sSeq, sRet, sIf, sSet, sEx, sSub, sNil, eVar, eC, eOp, eChain, tTruth, tBl, tNotM, tAndM, tOrM, eAndM, eOrM, eNotM, eIfM, aNil, aCons, eTup, eLst, mkLst, mkTup, eCB, eF, eSl, oPart, oNone, eUn, isB, truD, isiF, tyOf, subT, leD, ltD, gtD, geD, cmpD, lenF, lenN, neD, eqD, eqB, ofOpt, MM.keep, Res.bind, Res.toS, ixD, addD, subD, modD, fdivD, intF, List.replicate, setD, negD, mulD, sizeLine, sAsg, asg, asgs, items, sPar, n_add_mix, n_add_scale, n_add_swap, n_add_set, n_add_copy, n_mix_add, n_mix_scale, n_mix_swap, n_mix_set, n_mix_copy, n_scale_add, n_scale_mix, n_scale_swap, n_scale_set, n_scale_copy, n_swap_add, n_swap_mix, n_swap_scale, n_swap_set, n_swap_copy, n_set_add, n_set_mix, n_set_scale, n_set_swap, n_set_copy, n_copy_add, n_copy_mix, n_copy_scale, n_copy_swap, n_copy_set, i_add_addset, i_mix_addset, i_scale_addset, i_swap_addset, i_set_addset, i_copy_addset, i_add_setcopy, i_mix_setcopy, i_scale_setcopy, i_swap_setcopy, i_set_setcopy, i_copy_setcopy, i_add_mixcopy, i_mix_mixcopy, i_scale_mixcopy, i_swap_mixcopy, i_set_mixcopy, i_copy_mixcopy, MH.seq, listF, tupleF, allF, MF.bools_map, ixD2, dgetD, dkey, eDct, ePs, putDct, keysD, mergeD, putD, valD, gn1, gn0, gn00, gs10, gs01, aI0, aI1, aI2, aI3, sFor, iSeq, MI.n, l2, n0, x1, x2, x3, p, sd, y1, y3, em]
      rfl
    · rcases List.mem_or_eq_of_mem_set hv with z | rfl
      · rcases List.mem_or_eq_of_mem_set z with z | rfl
        · exact low v z
        · omega
      · omega
  | @set i c hi c0 c1 =>
    obtain ⟨d1, d2, d3, d4⟩ := at_dig ok hi
    have hi' : i < ds.length := by omega
    have x1 := ix_at (ds := ds) hi'
    have x2 := ix_at (ds := bs) hi
    have x3 := ixN_at hi'
    have p : 0 < at_ bs i := by omega
    have sd := small d1 (by omega)
    refine ⟨ds.set i (c % at_ bs i), ?_, ?_, ?_, ?_, by simp [runD, sSeq, sRet, sIf, sSet, sEx, sSub, sNil, eVar, eC, eOp, eChain, tTruth, tBl, tNotM, tAndM, tOrM, eAndM, eOrM, eNotM, eIfM, aNil, aCons, eTup, eLst, mkLst, mkTup, eCB, eF, eSl, oPart, oNone, eUn, isB, truD, isiF, tyOf, subT, leD, ltD, gtD, geD, cmpD, lenF, lenN, neD, eqD, eqB, ofOpt, MM.keep, Res.bind, Res.toS, ixD, addD, subD, modD, fdivD, intF, List.replicate, setD, negD, mulD, sizeLine, sAsg, asg, asgs, items, sPar, n_add_mix, n_add_scale, n_add_swap, n_add_set, n_add_copy, n_mix_add, n_mix_scale, n_mix_swap, n_mix_set, n_mix_copy, n_scale_add, n_scale_mix, n_scale_swap, n_scale_set, n_scale_copy, n_swap_add, n_swap_mix, n_swap_scale, n_swap_set, n_swap_copy, n_set_add, n_set_mix, n_set_scale, n_set_swap, n_set_copy, n_copy_add, n_copy_mix, n_copy_scale, n_copy_swap, n_copy_set, i_add_addset, i_mix_addset, i_scale_addset, i_swap_addset, i_set_addset, i_copy_addset, i_add_setcopy, i_mix_setcopy, i_scale_setcopy, i_swap_setcopy, i_set_setcopy, i_copy_setcopy, i_add_mixcopy, i_mix_mixcopy, i_scale_mixcopy, i_swap_mixcopy, i_set_mixcopy, i_copy_mixcopy, MH.seq, listF, tupleF, allF, MF.bools_map, ixD2, dgetD, dkey, eDct, ePs, putDct, keysD, mergeD, putD, valD, gn1, gn0, gn00, gs10, gs01, aI0, aI1, aI2, aI3], fun v hv => ?_⟩
    rotate_left 2
    · unfold m_done b_done m__new_digit b__new_digit
      simp [runD, sSeq, sRet, sIf, sSet, sEx, sSub, sNil, eVar, eC, eOp, eChain, tTruth, tBl, tNotM, tAndM, tOrM, eAndM, eOrM, eNotM, eIfM, aNil, aCons, eTup, eLst, mkLst, mkTup, eCB, eF, eSl, oPart, oNone, eUn, isB, truD, isiF, tyOf, subT, leD, ltD, gtD, geD, cmpD, lenF, lenN, neD, eqD, eqB, ofOpt, MM.keep, Res.bind, Res.toS, ixD, addD, subD, modD, fdivD, intF, List.replicate, setD, negD, mulD, sizeLine, sAsg, asg, asgs, items, sPar, n_add_mix, n_add_scale, n_add_swap, n_add_set, n_add_copy, n_mix_add, n_mix_scale, n_mix_swap, n_mix_set, n_mix_copy, n_scale_add, n_scale_mix, n_scale_swap, n_scale_set, n_scale_copy, n_swap_add, n_swap_mix, n_swap_scale, n_swap_set, n_swap_copy, n_set_add, n_set_mix, n_set_scale, n_set_swap, n_set_copy, n_copy_add, n_copy_mix, n_copy_scale, n_copy_swap, n_copy_set, i_add_addset, i_mix_addset, i_scale_addset, i_swap_addset, i_set_addset, i_copy_addset, i_add_setcopy, i_mix_setcopy, i_scale_setcopy, i_swap_setcopy, i_set_setcopy, i_copy_setcopy, i_add_mixcopy, i_mix_mixcopy, i_scale_mixcopy, i_swap_mixcopy, i_set_mixcopy, i_copy_mixcopy, MH.seq, listF, tupleF, allF, MF.bools_map, ixD2, dgetD, dkey, eDct, ePs, putDct, keysD, mergeD, putD, valD, gn1, gn0, gn00, gs10, gs01, aI0, aI1, aI2, aI3, e1, z1, n1, ha, x1, x2, x3, p, get1 n1, sd]
      rfl
    · unfold m__law_act b__law_act
      simp [runD, sSeq, sRet, sIf, sSet, sEx, sSub, sNil, eVar, eC, eOp, eChain, tTruth, tBl, tNotM, tAndM, tOrM, eAndM, eOrM, eNotM, eIfM, aNil, aCons, eTup, eLst, mkLst, mkTup, eCB, eF, eSl, oPart, oNone, eUn, isB, truD, isiF, tyOf, subT, leD, ltD, gtD, geD, cmpD, lenF, lenN, neD, eqD, eqB, ofOpt, MM.keep, Res.bind, Res.toS, ixD, addD, subD, modD, fdivD, intF, List.replicate, setD, negD, mulD, sizeLine, sAsg, asg, asgs, items, sPar, n_add_mix, n_add_scale, n_add_swap, n_add_set, n_add_copy, n_mix_add, n_mix_scale, n_mix_swap, n_mix_set, n_mix_copy, n_scale_add, n_scale_mix, n_scale_swap, n_scale_set, n_scale_copy, n_swap_add, n_swap_mix, n_swap_scale, n_swap_set, n_swap_copy, n_set_add, n_set_mix, n_set_scale, n_set_swap, n_set_copy, n_copy_add, n_copy_mix, n_copy_scale, n_copy_swap, n_copy_set, i_add_addset, i_mix_addset, i_scale_addset, i_swap_addset, i_set_addset, i_copy_addset, i_add_setcopy, i_mix_setcopy, i_scale_setcopy, i_swap_setcopy, i_set_setcopy, i_copy_setcopy, i_add_mixcopy, i_mix_mixcopy, i_scale_mixcopy, i_swap_mixcopy, i_set_mixcopy, i_copy_mixcopy, MH.seq, listF, tupleF, allF, MF.bools_map, ixD2, dgetD, dkey, eDct, ePs, putDct, keysD, mergeD, putD, valD, gn1, gn0, gn00, gs10, gs01, aI0, aI1, aI2, aI3, sFor, iSeq, MI.n, l2, n0, x1, x2, x3, p, sd]
      rfl
    · rcases List.mem_or_eq_of_mem_set hv with z | rfl
      · exact low v z
      · have q1 := Int.emod_nonneg (c) (show at_ bs i ≠ 0 by omega)
        have q2 := Int.emod_lt_of_pos (c) p
        omega
  | @copy i j hi hj =>
    obtain ⟨d1, d2, d3, d4⟩ := at_dig ok hi
    have hi' : i < ds.length := by omega
    have x1 := ix_at (ds := ds) hi'
    have x2 := ix_at (ds := bs) hi
    have x3 := ixN_at hi'
    have p : 0 < at_ bs i := by omega
    have sd := small d1 (by omega)
    obtain ⟨f1, f2, f3, f4⟩ := at_dig ok hj
    have hj' : j < ds.length := by omega
    have y1 := ix_at (ds := ds) hj'
    have y3 := ixN_at hj'
    have sf := small f1 (by omega)
    refine ⟨ds.set i (at_ ds j % at_ bs i), ?_, ?_, ?_, ?_, by simp [runD, sSeq, sRet, sIf, sSet, sEx, sSub, sNil, eVar, eC, eOp, eChain, tTruth, tBl, tNotM, tAndM, tOrM, eAndM, eOrM, eNotM, eIfM, aNil, aCons, eTup, eLst, mkLst, mkTup, eCB, eF, eSl, oPart, oNone, eUn, isB, truD, isiF, tyOf, subT, leD, ltD, gtD, geD, cmpD, lenF, lenN, neD, eqD, eqB, ofOpt, MM.keep, Res.bind, Res.toS, ixD, addD, subD, modD, fdivD, intF, List.replicate, setD, negD, mulD, sizeLine, sAsg, asg, asgs, items, sPar, n_add_mix, n_add_scale, n_add_swap, n_add_set, n_add_copy, n_mix_add, n_mix_scale, n_mix_swap, n_mix_set, n_mix_copy, n_scale_add, n_scale_mix, n_scale_swap, n_scale_set, n_scale_copy, n_swap_add, n_swap_mix, n_swap_scale, n_swap_set, n_swap_copy, n_set_add, n_set_mix, n_set_scale, n_set_swap, n_set_copy, n_copy_add, n_copy_mix, n_copy_scale, n_copy_swap, n_copy_set, i_add_addset, i_mix_addset, i_scale_addset, i_swap_addset, i_set_addset, i_copy_addset, i_add_setcopy, i_mix_setcopy, i_scale_setcopy, i_swap_setcopy, i_set_setcopy, i_copy_setcopy, i_add_mixcopy, i_mix_mixcopy, i_scale_mixcopy, i_swap_mixcopy, i_set_mixcopy, i_copy_mixcopy, MH.seq, listF, tupleF, allF, MF.bools_map, ixD2, dgetD, dkey, eDct, ePs, putDct, keysD, mergeD, putD, valD, gn1, gn0, gn00, gs10, gs01, aI0, aI1, aI2, aI3], fun v hv => ?_⟩
    rotate_left 2
    · unfold m_done b_done m__new_digit b__new_digit
      simp [runD, sSeq, sRet, sIf, sSet, sEx, sSub, sNil, eVar, eC, eOp, eChain, tTruth, tBl, tNotM, tAndM, tOrM, eAndM, eOrM, eNotM, eIfM, aNil, aCons, eTup, eLst, mkLst, mkTup, eCB, eF, eSl, oPart, oNone, eUn, isB, truD, isiF, tyOf, subT, leD, ltD, gtD, geD, cmpD, lenF, lenN, neD, eqD, eqB, ofOpt, MM.keep, Res.bind, Res.toS, ixD, addD, subD, modD, fdivD, intF, List.replicate, setD, negD, mulD, sizeLine, sAsg, asg, asgs, items, sPar, n_add_mix, n_add_scale, n_add_swap, n_add_set, n_add_copy, n_mix_add, n_mix_scale, n_mix_swap, n_mix_set, n_mix_copy, n_scale_add, n_scale_mix, n_scale_swap, n_scale_set, n_scale_copy, n_swap_add, n_swap_mix, n_swap_scale, n_swap_set, n_swap_copy, n_set_add, n_set_mix, n_set_scale, n_set_swap, n_set_copy, n_copy_add, n_copy_mix, n_copy_scale, n_copy_swap, n_copy_set, i_add_addset, i_mix_addset, i_scale_addset, i_swap_addset, i_set_addset, i_copy_addset, i_add_setcopy, i_mix_setcopy, i_scale_setcopy, i_swap_setcopy, i_set_setcopy, i_copy_setcopy, i_add_mixcopy, i_mix_mixcopy, i_scale_mixcopy, i_swap_mixcopy, i_set_mixcopy, i_copy_mixcopy, MH.seq, listF, tupleF, allF, MF.bools_map, ixD2, dgetD, dkey, eDct, ePs, putDct, keysD, mergeD, putD, valD, gn1, gn0, gn00, gs10, gs01, aI0, aI1, aI2, aI3, e1, z1, n1, ha, x1, x2, x3, p, get1 n1, sd, y1, sf]
      rfl
    · unfold m__law_act b__law_act
      simp [runD, sSeq, sRet, sIf, sSet, sEx, sSub, sNil, eVar, eC, eOp, eChain, tTruth, tBl, tNotM, tAndM, tOrM, eAndM, eOrM, eNotM, eIfM, aNil, aCons, eTup, eLst, mkLst, mkTup, eCB, eF, eSl, oPart, oNone, eUn, isB, truD, isiF, tyOf, subT, leD, ltD, gtD, geD, cmpD, lenF, lenN, neD, eqD, eqB, ofOpt, MM.keep, Res.bind, Res.toS, ixD, addD, subD, modD, fdivD, intF, List.replicate, setD, negD, mulD, sizeLine, sAsg, asg, asgs, items, sPar, n_add_mix, n_add_scale, n_add_swap, n_add_set, n_add_copy, n_mix_add, n_mix_scale, n_mix_swap, n_mix_set, n_mix_copy, n_scale_add, n_scale_mix, n_scale_swap, n_scale_set, n_scale_copy, n_swap_add, n_swap_mix, n_swap_scale, n_swap_set, n_swap_copy, n_set_add, n_set_mix, n_set_scale, n_set_swap, n_set_copy, n_copy_add, n_copy_mix, n_copy_scale, n_copy_swap, n_copy_set, i_add_addset, i_mix_addset, i_scale_addset, i_swap_addset, i_set_addset, i_copy_addset, i_add_setcopy, i_mix_setcopy, i_scale_setcopy, i_swap_setcopy, i_set_setcopy, i_copy_setcopy, i_add_mixcopy, i_mix_mixcopy, i_scale_mixcopy, i_swap_mixcopy, i_set_mixcopy, i_copy_mixcopy, MH.seq, listF, tupleF, allF, MF.bools_map, ixD2, dgetD, dkey, eDct, ePs, putDct, keysD, mergeD, putD, valD, gn1, gn0, gn00, gs10, gs01, aI0, aI1, aI2, aI3, sFor, iSeq, MI.n, l2, n0, x1, x2, x3, p, sd, y1, sf]
      rfl
    · rcases List.mem_or_eq_of_mem_set hv with z | rfl
      · exact low v z
      · have q1 := Int.emod_nonneg (at_ ds j) (show at_ bs i ≠ 0 by omega)
        have q2 := Int.emod_lt_of_pos (at_ ds j) p
        omega
theorem nohold {bs ds : List Int} {act : List D} {cs : List (Nat × Int)} (hc : Conds ds.length cs) (ha : (holds ds cs).all id = false) :
    ∃ (h1 h2 : MH), m_done [.tup (bs.map .int), .tup [.tup act, .tup (cD cs)], .tup (ds.map .int)] MH.nil = .ok (.tup (ds.map .int)) h1 ∧ m__law_act [.tup (bs.map .int), .tup [.tup act, .tup (cD cs)], .tup (ds.map .int)] MH.nil = .ok (.tup (ds.map .int)) h2 := by
  obtain ⟨g1, e1, n1, z1⟩ := cond1 hc (some (.tup (bs.map .int))) (some (.tup [.tup act, .tup (cD cs)])) (some (.tup act))
  have l2 := (cond2 hc (some (.tup (bs.map .int))) (some (.tup [.tup act, .tup (cD cs)])) (some (.tup act)) [some (.tup (bs.map .int)), some (.tup [.tup act, .tup (cD cs)]), some (.tup (ds.map .int)), some (.tup act), some (.tup (cD cs)), none, none, none, none, none] rfl rfl).2 ha
  refine ⟨g1, MH.nil, ?_, ?_⟩
  · unfold m_done b_done
    simp [runD, sSeq, sRet, sIf, sSet, sEx, sSub, sNil, eVar, eC, eOp, eChain, tTruth, tBl, tNotM, tAndM, tOrM, eAndM, eOrM, eNotM, eIfM, aNil, aCons, eTup, eLst, mkLst, mkTup, eCB, eF, eSl, oPart, oNone, eUn, isB, truD, isiF, tyOf, subT, leD, ltD, gtD, geD, cmpD, lenF, lenN, neD, eqD, eqB, ofOpt, MM.keep, Res.bind, Res.toS, ixD, addD, subD, modD, fdivD, intF, List.replicate, setD, negD, mulD, sizeLine, sAsg, asg, asgs, items, sPar, n_add_mix, n_add_scale, n_add_swap, n_add_set, n_add_copy, n_mix_add, n_mix_scale, n_mix_swap, n_mix_set, n_mix_copy, n_scale_add, n_scale_mix, n_scale_swap, n_scale_set, n_scale_copy, n_swap_add, n_swap_mix, n_swap_scale, n_swap_set, n_swap_copy, n_set_add, n_set_mix, n_set_scale, n_set_swap, n_set_copy, n_copy_add, n_copy_mix, n_copy_scale, n_copy_swap, n_copy_set, i_add_addset, i_mix_addset, i_scale_addset, i_swap_addset, i_set_addset, i_copy_addset, i_add_setcopy, i_mix_setcopy, i_scale_setcopy, i_swap_setcopy, i_set_setcopy, i_copy_setcopy, i_add_mixcopy, i_mix_mixcopy, i_scale_mixcopy, i_swap_mixcopy, i_set_mixcopy, i_copy_mixcopy, MH.seq, listF, tupleF, allF, MF.bools_map, ixD2, dgetD, dkey, eDct, ePs, putDct, keysD, mergeD, putD, valD, gn1, gn0, gn00, gs10, gs01, aI0, aI1, aI2, aI3, e1, z1, ha]
  · unfold m__law_act b__law_act
    simp [runD, sSeq, sRet, sIf, sSet, sEx, sSub, sNil, eVar, eC, eOp, eChain, tTruth, tBl, tNotM, tAndM, tOrM, eAndM, eOrM, eNotM, eIfM, aNil, aCons, eTup, eLst, mkLst, mkTup, eCB, eF, eSl, oPart, oNone, eUn, isB, truD, isiF, tyOf, subT, leD, ltD, gtD, geD, cmpD, lenF, lenN, neD, eqD, eqB, ofOpt, MM.keep, Res.bind, Res.toS, ixD, addD, subD, modD, fdivD, intF, List.replicate, setD, negD, mulD, sizeLine, sAsg, asg, asgs, items, sPar, n_add_mix, n_add_scale, n_add_swap, n_add_set, n_add_copy, n_mix_add, n_mix_scale, n_mix_swap, n_mix_set, n_mix_copy, n_scale_add, n_scale_mix, n_scale_swap, n_scale_set, n_scale_copy, n_swap_add, n_swap_mix, n_swap_scale, n_swap_set, n_swap_copy, n_set_add, n_set_mix, n_set_scale, n_set_swap, n_set_copy, n_copy_add, n_copy_mix, n_copy_scale, n_copy_swap, n_copy_set, i_add_addset, i_mix_addset, i_scale_addset, i_swap_addset, i_set_addset, i_copy_addset, i_add_setcopy, i_mix_setcopy, i_scale_setcopy, i_swap_setcopy, i_set_setcopy, i_copy_setcopy, i_add_mixcopy, i_mix_mixcopy, i_scale_mixcopy, i_swap_mixcopy, i_set_mixcopy, i_copy_mixcopy, MH.seq, listF, tupleF, allF, MF.bools_map, ixD2, dgetD, dkey, eDct, ePs, putDct, keysD, mergeD, putD, valD, gn1, gn0, gn00, gs10, gs01, aI0, aI1, aI2, aI3, sFor, iSeq, MI.n, l2]
theorem cD_lo (cs : List (Nat × Int)) : D.los 0 (cD cs) = true := by
  unfold cD
  induction cs with
  | nil => rfl
  | cons p cs ih => simp [runD, sSeq, sRet, sIf, sSet, sEx, sSub, sNil, eVar, eC, eOp, eChain, tTruth, tBl, tNotM, tAndM, tOrM, eAndM, eOrM, eNotM, eIfM, aNil, aCons, eTup, eLst, mkLst, mkTup, eCB, eF, eSl, oPart, oNone, eUn, isB, truD, isiF, tyOf, subT, leD, ltD, gtD, geD, cmpD, lenF, lenN, neD, eqD, eqB, ofOpt, MM.keep, Res.bind, Res.toS, ixD, addD, subD, modD, fdivD, intF, List.replicate, setD, negD, mulD, sizeLine, sAsg, asg, asgs, items, sPar, n_add_mix, n_add_scale, n_add_swap, n_add_set, n_add_copy, n_mix_add, n_mix_scale, n_mix_swap, n_mix_set, n_mix_copy, n_scale_add, n_scale_mix, n_scale_swap, n_scale_set, n_scale_copy, n_swap_add, n_swap_mix, n_swap_scale, n_swap_set, n_swap_copy, n_set_add, n_set_mix, n_set_scale, n_set_swap, n_set_copy, n_copy_add, n_copy_mix, n_copy_scale, n_copy_swap, n_copy_set, i_add_addset, i_mix_addset, i_scale_addset, i_swap_addset, i_set_addset, i_copy_addset, i_add_setcopy, i_mix_setcopy, i_scale_setcopy, i_swap_setcopy, i_set_setcopy, i_copy_setcopy, i_add_mixcopy, i_mix_mixcopy, i_scale_mixcopy, i_swap_mixcopy, i_set_mixcopy, i_copy_mixcopy, MH.seq, listF, tupleF, allF, MF.bools_map, ixD2, dgetD, dkey, eDct, ePs, putDct, keysD, mergeD, putD, valD, gn1, gn0, gn00, gs10, gs01, aI0, aI1, aI2, aI3, D.los, D.lo, ih]
theorem act_lo {bs : List Int} {act : List D} (a : Act bs act) : D.los 0 act = true := by cases a <;> simp [runD, sSeq, sRet, sIf, sSet, sEx, sSub, sNil, eVar, eC, eOp, eChain, tTruth, tBl, tNotM, tAndM, tOrM, eAndM, eOrM, eNotM, eIfM, aNil, aCons, eTup, eLst, mkLst, mkTup, eCB, eF, eSl, oPart, oNone, eUn, isB, truD, isiF, tyOf, subT, leD, ltD, gtD, geD, cmpD, lenF, lenN, neD, eqD, eqB, ofOpt, MM.keep, Res.bind, Res.toS, ixD, addD, subD, modD, fdivD, intF, List.replicate, setD, negD, mulD, sizeLine, sAsg, asg, asgs, items, sPar, n_add_mix, n_add_scale, n_add_swap, n_add_set, n_add_copy, n_mix_add, n_mix_scale, n_mix_swap, n_mix_set, n_mix_copy, n_scale_add, n_scale_mix, n_scale_swap, n_scale_set, n_scale_copy, n_swap_add, n_swap_mix, n_swap_scale, n_swap_set, n_swap_copy, n_set_add, n_set_mix, n_set_scale, n_set_swap, n_set_copy, n_copy_add, n_copy_mix, n_copy_scale, n_copy_swap, n_copy_set, i_add_addset, i_mix_addset, i_scale_addset, i_swap_addset, i_set_addset, i_copy_addset, i_add_setcopy, i_mix_setcopy, i_scale_setcopy, i_swap_setcopy, i_set_setcopy, i_copy_setcopy, i_add_mixcopy, i_mix_mixcopy, i_scale_mixcopy, i_swap_mixcopy, i_set_mixcopy, i_copy_mixcopy, MH.seq, listF, tupleF, allF, MF.bools_map, ixD2, dgetD, dkey, eDct, ePs, putDct, keysD, mergeD, putD, valD, gn1, gn0, gn00, gs10, gs01, aI0, aI1, aI2, aI3, D.los, D.lo]
/-- done and this law's own step, in any memory -/
theorem dones {bs ds : List Int} (ok : Ok bs ds) {act : List D} (a : Act bs act) {cs : List (Nat × Int)} (hc : Conds ds.length cs) (h : MH) :
    ∃ rs : List Int, c_done [.tup (bs.map .int), .tup [.tup act, .tup (cD cs)], .tup (ds.map .int)] h = .ok (.tup (rs.map .int)) h ∧ c__law_act [.tup (bs.map .int), .tup [.tup act, .tup (cD cs)], .tup (ds.map .int)] h = .ok (.tup (rs.map .int)) h ∧
      rs.length ≤ 6 ∧ ∀ v ∈ rs, 0 ≤ v ∧ v < 70 := by
  have lo : D.los 0 [.tup (bs.map .int), .tup [.tup act, .tup (cD cs)], .tup (ds.map .int)] = true := by simp [runD, sSeq, sRet, sIf, sSet, sEx, sSub, sNil, eVar, eC, eOp, eChain, tTruth, tBl, tNotM, tAndM, tOrM, eAndM, eOrM, eNotM, eIfM, aNil, aCons, eTup, eLst, mkLst, mkTup, eCB, eF, eSl, oPart, oNone, eUn, isB, truD, isiF, tyOf, subT, leD, ltD, gtD, geD, cmpD, lenF, lenN, neD, eqD, eqB, ofOpt, MM.keep, Res.bind, Res.toS, ixD, addD, subD, modD, fdivD, intF, List.replicate, setD, negD, mulD, sizeLine, sAsg, asg, asgs, items, sPar, n_add_mix, n_add_scale, n_add_swap, n_add_set, n_add_copy, n_mix_add, n_mix_scale, n_mix_swap, n_mix_set, n_mix_copy, n_scale_add, n_scale_mix, n_scale_swap, n_scale_set, n_scale_copy, n_swap_add, n_swap_mix, n_swap_scale, n_swap_set, n_swap_copy, n_set_add, n_set_mix, n_set_scale, n_set_swap, n_set_copy, n_copy_add, n_copy_mix, n_copy_scale, n_copy_swap, n_copy_set, i_add_addset, i_mix_addset, i_scale_addset, i_swap_addset, i_set_addset, i_copy_addset, i_add_setcopy, i_mix_setcopy, i_scale_setcopy, i_swap_setcopy, i_set_setcopy, i_copy_setcopy, i_add_mixcopy, i_mix_mixcopy, i_scale_mixcopy, i_swap_mixcopy, i_set_mixcopy, i_copy_mixcopy, MH.seq, listF, tupleF, allF, MF.bools_map, ixD2, dgetD, dkey, eDct, ePs, putDct, keysD, mergeD, putD, valD, gn1, gn0, gn00, gs10, gs01, aI0, aI1, aI2, aI3, D.los, D.lo, MF.ints_lo, cD_lo, act_lo a]
  have lr : ∀ rs : List Int, (D.tup (rs.map D.int)).lo 0 = true := fun rs => by simp [runD, sSeq, sRet, sIf, sSet, sEx, sSub, sNil, eVar, eC, eOp, eChain, tTruth, tBl, tNotM, tAndM, tOrM, eAndM, eOrM, eNotM, eIfM, aNil, aCons, eTup, eLst, mkLst, mkTup, eCB, eF, eSl, oPart, oNone, eUn, isB, truD, isiF, tyOf, subT, leD, ltD, gtD, geD, cmpD, lenF, lenN, neD, eqD, eqB, ofOpt, MM.keep, Res.bind, Res.toS, ixD, addD, subD, modD, fdivD, intF, List.replicate, setD, negD, mulD, sizeLine, sAsg, asg, asgs, items, sPar, n_add_mix, n_add_scale, n_add_swap, n_add_set, n_add_copy, n_mix_add, n_mix_scale, n_mix_swap, n_mix_set, n_mix_copy, n_scale_add, n_scale_mix, n_scale_swap, n_scale_set, n_scale_copy, n_swap_add, n_swap_mix, n_swap_scale, n_swap_set, n_swap_copy, n_set_add, n_set_mix, n_set_scale, n_set_swap, n_set_copy, n_copy_add, n_copy_mix, n_copy_scale, n_copy_swap, n_copy_set, i_add_addset, i_mix_addset, i_scale_addset, i_swap_addset, i_set_addset, i_copy_addset, i_add_setcopy, i_mix_setcopy, i_scale_setcopy, i_swap_setcopy, i_set_setcopy, i_copy_setcopy, i_add_mixcopy, i_mix_mixcopy, i_scale_mixcopy, i_swap_mixcopy, i_set_mixcopy, i_copy_mixcopy, MH.seq, listF, tupleF, allF, MF.bools_map, ixD2, dgetD, dkey, eDct, ePs, putDct, keysD, mergeD, putD, valD, gn1, gn0, gn00, gs10, gs01, aI0, aI1, aI2, aI3, D.lo, MF.ints_lo]
  have ll := ok.len
  have le := ok.le
  cases q : (holds ds cs).all id with
  | true =>
    obtain ⟨rs, h1, h2, e1, e2, e3, e4⟩ := hold ok a hc q
    exact ⟨rs, by simp [runD, sSeq, sRet, sIf, sSet, sEx, sSub, sNil, eVar, eC, eOp, eChain, tTruth, tBl, tNotM, tAndM, tOrM, eAndM, eOrM, eNotM, eIfM, aNil, aCons, eTup, eLst, mkLst, mkTup, eCB, eF, eSl, oPart, oNone, eUn, isB, truD, isiF, tyOf, subT, leD, ltD, gtD, geD, cmpD, lenF, lenN, neD, eqD, eqB, ofOpt, MM.keep, Res.bind, Res.toS, ixD, addD, subD, modD, fdivD, intF, List.replicate, setD, negD, mulD, sizeLine, sAsg, asg, asgs, items, sPar, n_add_mix, n_add_scale, n_add_swap, n_add_set, n_add_copy, n_mix_add, n_mix_scale, n_mix_swap, n_mix_set, n_mix_copy, n_scale_add, n_scale_mix, n_scale_swap, n_scale_set, n_scale_copy, n_swap_add, n_swap_mix, n_swap_scale, n_swap_set, n_swap_copy, n_set_add, n_set_mix, n_set_scale, n_set_swap, n_set_copy, n_copy_add, n_copy_mix, n_copy_scale, n_copy_swap, n_copy_set, i_add_addset, i_mix_addset, i_scale_addset, i_swap_addset, i_set_addset, i_copy_addset, i_add_setcopy, i_mix_setcopy, i_scale_setcopy, i_swap_setcopy, i_set_setcopy, i_copy_setcopy, i_add_mixcopy, i_mix_mixcopy, i_scale_mixcopy, i_swap_mixcopy, i_set_mixcopy, i_copy_mixcopy, MH.seq, listF, tupleF, allF, MF.bools_map, ixD2, dgetD, dkey, eDct, ePs, putDct, keysD, mergeD, putD, valD, gn1, gn0, gn00, gs10, gs01, aI0, aI1, aI2, aI3, c_done, loc, lo, e1, lr], by simp [runD, sSeq, sRet, sIf, sSet, sEx, sSub, sNil, eVar, eC, eOp, eChain, tTruth, tBl, tNotM, tAndM, tOrM, eAndM, eOrM, eNotM, eIfM, aNil, aCons, eTup, eLst, mkLst, mkTup, eCB, eF, eSl, oPart, oNone, eUn, isB, truD, isiF, tyOf, subT, leD, ltD, gtD, geD, cmpD, lenF, lenN, neD, eqD, eqB, ofOpt, MM.keep, Res.bind, Res.toS, ixD, addD, subD, modD, fdivD, intF, List.replicate, setD, negD, mulD, sizeLine, sAsg, asg, asgs, items, sPar, n_add_mix, n_add_scale, n_add_swap, n_add_set, n_add_copy, n_mix_add, n_mix_scale, n_mix_swap, n_mix_set, n_mix_copy, n_scale_add, n_scale_mix, n_scale_swap, n_scale_set, n_scale_copy, n_swap_add, n_swap_mix, n_swap_scale, n_swap_set, n_swap_copy, n_set_add, n_set_mix, n_set_scale, n_set_swap, n_set_copy, n_copy_add, n_copy_mix, n_copy_scale, n_copy_swap, n_copy_set, i_add_addset, i_mix_addset, i_scale_addset, i_swap_addset, i_set_addset, i_copy_addset, i_add_setcopy, i_mix_setcopy, i_scale_setcopy, i_swap_setcopy, i_set_setcopy, i_copy_setcopy, i_add_mixcopy, i_mix_mixcopy, i_scale_mixcopy, i_swap_mixcopy, i_set_mixcopy, i_copy_mixcopy, MH.seq, listF, tupleF, allF, MF.bools_map, ixD2, dgetD, dkey, eDct, ePs, putDct, keysD, mergeD, putD, valD, gn1, gn0, gn00, gs10, gs01, aI0, aI1, aI2, aI3, c__law_act, loc, lo, e2, lr], by omega, e4⟩
  | false =>
    obtain ⟨h1, h2, e1, e2⟩ := nohold (bs := bs) (act := act) hc q
    refine ⟨ds, by simp [runD, sSeq, sRet, sIf, sSet, sEx, sSub, sNil, eVar, eC, eOp, eChain, tTruth, tBl, tNotM, tAndM, tOrM, eAndM, eOrM, eNotM, eIfM, aNil, aCons, eTup, eLst, mkLst, mkTup, eCB, eF, eSl, oPart, oNone, eUn, isB, truD, isiF, tyOf, subT, leD, ltD, gtD, geD, cmpD, lenF, lenN, neD, eqD, eqB, ofOpt, MM.keep, Res.bind, Res.toS, ixD, addD, subD, modD, fdivD, intF, List.replicate, setD, negD, mulD, sizeLine, sAsg, asg, asgs, items, sPar, n_add_mix, n_add_scale, n_add_swap, n_add_set, n_add_copy, n_mix_add, n_mix_scale, n_mix_swap, n_mix_set, n_mix_copy, n_scale_add, n_scale_mix, n_scale_swap, n_scale_set, n_scale_copy, n_swap_add, n_swap_mix, n_swap_scale, n_swap_set, n_swap_copy, n_set_add, n_set_mix, n_set_scale, n_set_swap, n_set_copy, n_copy_add, n_copy_mix, n_copy_scale, n_copy_swap, n_copy_set, i_add_addset, i_mix_addset, i_scale_addset, i_swap_addset, i_set_addset, i_copy_addset, i_add_setcopy, i_mix_setcopy, i_scale_setcopy, i_swap_setcopy, i_set_setcopy, i_copy_setcopy, i_add_mixcopy, i_mix_mixcopy, i_scale_mixcopy, i_swap_mixcopy, i_set_mixcopy, i_copy_mixcopy, MH.seq, listF, tupleF, allF, MF.bools_map, ixD2, dgetD, dkey, eDct, ePs, putDct, keysD, mergeD, putD, valD, gn1, gn0, gn00, gs10, gs01, aI0, aI1, aI2, aI3, c_done, loc, lo, e1, lr], by simp [runD, sSeq, sRet, sIf, sSet, sEx, sSub, sNil, eVar, eC, eOp, eChain, tTruth, tBl, tNotM, tAndM, tOrM, eAndM, eOrM, eNotM, eIfM, aNil, aCons, eTup, eLst, mkLst, mkTup, eCB, eF, eSl, oPart, oNone, eUn, isB, truD, isiF, tyOf, subT, leD, ltD, gtD, geD, cmpD, lenF, lenN, neD, eqD, eqB, ofOpt, MM.keep, Res.bind, Res.toS, ixD, addD, subD, modD, fdivD, intF, List.replicate, setD, negD, mulD, sizeLine, sAsg, asg, asgs, items, sPar, n_add_mix, n_add_scale, n_add_swap, n_add_set, n_add_copy, n_mix_add, n_mix_scale, n_mix_swap, n_mix_set, n_mix_copy, n_scale_add, n_scale_mix, n_scale_swap, n_scale_set, n_scale_copy, n_swap_add, n_swap_mix, n_swap_scale, n_swap_set, n_swap_copy, n_set_add, n_set_mix, n_set_scale, n_set_swap, n_set_copy, n_copy_add, n_copy_mix, n_copy_scale, n_copy_swap, n_copy_set, i_add_addset, i_mix_addset, i_scale_addset, i_swap_addset, i_set_addset, i_copy_addset, i_add_setcopy, i_mix_setcopy, i_scale_setcopy, i_swap_setcopy, i_set_setcopy, i_copy_setcopy, i_add_mixcopy, i_mix_mixcopy, i_scale_mixcopy, i_swap_mixcopy, i_set_mixcopy, i_copy_mixcopy, MH.seq, listF, tupleF, allF, MF.bools_map, ixD2, dgetD, dkey, eDct, ePs, putDct, keysD, mergeD, putD, valD, gn1, gn0, gn00, gs10, gs01, aI0, aI1, aI2, aI3, c__law_act, loc, lo, e2, lr], by omega, fun v hv => ?_⟩
    obtain ⟨k, hk, rfl⟩ := List.mem_iff_getElem.mp hv
    have := ok.dig k hk (by omega)
    have := ok.base k (by omega)
    omega
theorem losts {bs : List Int} (hb : ∀ k (h : k < bs.length), 2 ≤ bs[k] ∧ bs[k] ≤ 5) {act : List D} (a : Act bs act) (cs : List (Nat × Int)) (h : MH) :
    ∃ k : Bool, c_loses [.tup (bs.map .int), .tup [.tup act, .tup (cD cs)]] h = .ok (.bl k) h ∧ c__law_loses [.tup (bs.map .int), .tup [.tup act, .tup (cD cs)]] h = .ok (.bl k) h := by
  have lo : D.los 0 [.tup (bs.map .int), .tup [.tup act, .tup (cD cs)]] = true := by simp [runD, sSeq, sRet, sIf, sSet, sEx, sSub, sNil, eVar, eC, eOp, eChain, tTruth, tBl, tNotM, tAndM, tOrM, eAndM, eOrM, eNotM, eIfM, aNil, aCons, eTup, eLst, mkLst, mkTup, eCB, eF, eSl, oPart, oNone, eUn, isB, truD, isiF, tyOf, subT, leD, ltD, gtD, geD, cmpD, lenF, lenN, neD, eqD, eqB, ofOpt, MM.keep, Res.bind, Res.toS, ixD, addD, subD, modD, fdivD, intF, List.replicate, setD, negD, mulD, sizeLine, sAsg, asg, asgs, items, sPar, n_add_mix, n_add_scale, n_add_swap, n_add_set, n_add_copy, n_mix_add, n_mix_scale, n_mix_swap, n_mix_set, n_mix_copy, n_scale_add, n_scale_mix, n_scale_swap, n_scale_set, n_scale_copy, n_swap_add, n_swap_mix, n_swap_scale, n_swap_set, n_swap_copy, n_set_add, n_set_mix, n_set_scale, n_set_swap, n_set_copy, n_copy_add, n_copy_mix, n_copy_scale, n_copy_swap, n_copy_set, i_add_addset, i_mix_addset, i_scale_addset, i_swap_addset, i_set_addset, i_copy_addset, i_add_setcopy, i_mix_setcopy, i_scale_setcopy, i_swap_setcopy, i_set_setcopy, i_copy_setcopy, i_add_mixcopy, i_mix_mixcopy, i_scale_mixcopy, i_swap_mixcopy, i_set_mixcopy, i_copy_mixcopy, MH.seq, listF, tupleF, allF, MF.bools_map, ixD2, dgetD, dkey, eDct, ePs, putDct, keysD, mergeD, putD, valD, gn1, gn0, gn00, gs10, gs01, aI0, aI1, aI2, aI3, D.los, D.lo, MF.ints_lo, cD_lo, act_lo a]
  have lb : ∀ k : Bool, (D.bl k).lo 0 = true := fun _ => rfl
  cases a with
  | @scale i c hi c0 c1 =>
    have x2 := ix_at (ds := bs) hi
    have hh := hb i hi
    have eq : at_ bs i = bs[i] := by simp [runD, sSeq, sRet, sIf, sSet, sEx, sSub, sNil, eVar, eC, eOp, eChain, tTruth, tBl, tNotM, tAndM, tOrM, eAndM, eOrM, eNotM, eIfM, aNil, aCons, eTup, eLst, mkLst, mkTup, eCB, eF, eSl, oPart, oNone, eUn, isB, truD, isiF, tyOf, subT, leD, ltD, gtD, geD, cmpD, lenF, lenN, neD, eqD, eqB, ofOpt, MM.keep, Res.bind, Res.toS, ixD, addD, subD, modD, fdivD, intF, List.replicate, setD, negD, mulD, sizeLine, sAsg, asg, asgs, items, sPar, n_add_mix, n_add_scale, n_add_swap, n_add_set, n_add_copy, n_mix_add, n_mix_scale, n_mix_swap, n_mix_set, n_mix_copy, n_scale_add, n_scale_mix, n_scale_swap, n_scale_set, n_scale_copy, n_swap_add, n_swap_mix, n_swap_scale, n_swap_set, n_swap_copy, n_set_add, n_set_mix, n_set_scale, n_set_swap, n_set_copy, n_copy_add, n_copy_mix, n_copy_scale, n_copy_swap, n_copy_set, i_add_addset, i_mix_addset, i_scale_addset, i_swap_addset, i_set_addset, i_copy_addset, i_add_setcopy, i_mix_setcopy, i_scale_setcopy, i_swap_setcopy, i_set_setcopy, i_copy_setcopy, i_add_mixcopy, i_mix_mixcopy, i_scale_mixcopy, i_swap_mixcopy, i_set_mixcopy, i_copy_mixcopy, MH.seq, listF, tupleF, allF, MF.bools_map, ixD2, dgetD, dkey, eDct, ePs, putDct, keysD, mergeD, putD, valD, gn1, gn0, gn00, gs10, gs01, aI0, aI1, aI2, aI3, at_, hi]
    have dv := fun h => divides (b := at_ bs i) (c := c) (by omega) ⟨c0, c1⟩ h
    refine ⟨decide (1 < Nat.gcd c.natAbs (at_ bs i).natAbs), ?_, ?_⟩
    · simp [runD, sSeq, sRet, sIf, sSet, sEx, sSub, sNil, eVar, eC, eOp, eChain, tTruth, tBl, tNotM, tAndM, tOrM, eAndM, eOrM, eNotM, eIfM, aNil, aCons, eTup, eLst, mkLst, mkTup, eCB, eF, eSl, oPart, oNone, eUn, isB, truD, isiF, tyOf, subT, leD, ltD, gtD, geD, cmpD, lenF, lenN, neD, eqD, eqB, ofOpt, MM.keep, Res.bind, Res.toS, ixD, addD, subD, modD, fdivD, intF, List.replicate, setD, negD, mulD, sizeLine, sAsg, asg, asgs, items, sPar, n_add_mix, n_add_scale, n_add_swap, n_add_set, n_add_copy, n_mix_add, n_mix_scale, n_mix_swap, n_mix_set, n_mix_copy, n_scale_add, n_scale_mix, n_scale_swap, n_scale_set, n_scale_copy, n_swap_add, n_swap_mix, n_swap_scale, n_swap_set, n_swap_copy, n_set_add, n_set_mix, n_set_scale, n_set_swap, n_set_copy, n_copy_add, n_copy_mix, n_copy_scale, n_copy_swap, n_copy_set, i_add_addset, i_mix_addset, i_scale_addset, i_swap_addset, i_set_addset, i_copy_addset, i_add_setcopy, i_mix_setcopy, i_scale_setcopy, i_swap_setcopy, i_set_setcopy, i_copy_setcopy, i_add_mixcopy, i_mix_mixcopy, i_scale_mixcopy, i_swap_mixcopy, i_set_mixcopy, i_copy_mixcopy, MH.seq, listF, tupleF, allF, MF.bools_map, ixD2, dgetD, dkey, eDct, ePs, putDct, keysD, mergeD, putD, valD, gn1, gn0, gn00, gs10, gs01, aI0, aI1, aI2, aI3, c_loses, loc, lo, m_loses, b_loses, x2, gcdF, lb]
      omega
    · simp [runD, sSeq, sRet, sIf, sSet, sEx, sSub, sNil, eVar, eC, eOp, eChain, tTruth, tBl, tNotM, tAndM, tOrM, eAndM, eOrM, eNotM, eIfM, aNil, aCons, eTup, eLst, mkLst, mkTup, eCB, eF, eSl, oPart, oNone, eUn, isB, truD, isiF, tyOf, subT, leD, ltD, gtD, geD, cmpD, lenF, lenN, neD, eqD, eqB, ofOpt, MM.keep, Res.bind, Res.toS, ixD, addD, subD, modD, fdivD, intF, List.replicate, setD, negD, mulD, sizeLine, sAsg, asg, asgs, items, sPar, n_add_mix, n_add_scale, n_add_swap, n_add_set, n_add_copy, n_mix_add, n_mix_scale, n_mix_swap, n_mix_set, n_mix_copy, n_scale_add, n_scale_mix, n_scale_swap, n_scale_set, n_scale_copy, n_swap_add, n_swap_mix, n_swap_scale, n_swap_set, n_swap_copy, n_set_add, n_set_mix, n_set_scale, n_set_swap, n_set_copy, n_copy_add, n_copy_mix, n_copy_scale, n_copy_swap, n_copy_set, i_add_addset, i_mix_addset, i_scale_addset, i_swap_addset, i_set_addset, i_copy_addset, i_add_setcopy, i_mix_setcopy, i_scale_setcopy, i_swap_setcopy, i_set_setcopy, i_copy_setcopy, i_add_mixcopy, i_mix_mixcopy, i_scale_mixcopy, i_swap_mixcopy, i_set_mixcopy, i_copy_mixcopy, MH.seq, listF, tupleF, allF, MF.bools_map, ixD2, dgetD, dkey, eDct, ePs, putDct, keysD, mergeD, putD, valD, gn1, gn0, gn00, gs10, gs01, aI0, aI1, aI2, aI3, c__law_loses, loc, lo, m__law_loses, b__law_loses, x2, dv, lb]
  | add => exact ⟨false, by simp [runD, sSeq, sRet, sIf, sSet, sEx, sSub, sNil, eVar, eC, eOp, eChain, tTruth, tBl, tNotM, tAndM, tOrM, eAndM, eOrM, eNotM, eIfM, aNil, aCons, eTup, eLst, mkLst, mkTup, eCB, eF, eSl, oPart, oNone, eUn, isB, truD, isiF, tyOf, subT, leD, ltD, gtD, geD, cmpD, lenF, lenN, neD, eqD, eqB, ofOpt, MM.keep, Res.bind, Res.toS, ixD, addD, subD, modD, fdivD, intF, List.replicate, setD, negD, mulD, sizeLine, sAsg, asg, asgs, items, sPar, n_add_mix, n_add_scale, n_add_swap, n_add_set, n_add_copy, n_mix_add, n_mix_scale, n_mix_swap, n_mix_set, n_mix_copy, n_scale_add, n_scale_mix, n_scale_swap, n_scale_set, n_scale_copy, n_swap_add, n_swap_mix, n_swap_scale, n_swap_set, n_swap_copy, n_set_add, n_set_mix, n_set_scale, n_set_swap, n_set_copy, n_copy_add, n_copy_mix, n_copy_scale, n_copy_swap, n_copy_set, i_add_addset, i_mix_addset, i_scale_addset, i_swap_addset, i_set_addset, i_copy_addset, i_add_setcopy, i_mix_setcopy, i_scale_setcopy, i_swap_setcopy, i_set_setcopy, i_copy_setcopy, i_add_mixcopy, i_mix_mixcopy, i_scale_mixcopy, i_swap_mixcopy, i_set_mixcopy, i_copy_mixcopy, MH.seq, listF, tupleF, allF, MF.bools_map, ixD2, dgetD, dkey, eDct, ePs, putDct, keysD, mergeD, putD, valD, gn1, gn0, gn00, gs10, gs01, aI0, aI1, aI2, aI3, c_loses, loc, lo, m_loses, b_loses, lb], by simp [runD, sSeq, sRet, sIf, sSet, sEx, sSub, sNil, eVar, eC, eOp, eChain, tTruth, tBl, tNotM, tAndM, tOrM, eAndM, eOrM, eNotM, eIfM, aNil, aCons, eTup, eLst, mkLst, mkTup, eCB, eF, eSl, oPart, oNone, eUn, isB, truD, isiF, tyOf, subT, leD, ltD, gtD, geD, cmpD, lenF, lenN, neD, eqD, eqB, ofOpt, MM.keep, Res.bind, Res.toS, ixD, addD, subD, modD, fdivD, intF, List.replicate, setD, negD, mulD, sizeLine, sAsg, asg, asgs, items, sPar, n_add_mix, n_add_scale, n_add_swap, n_add_set, n_add_copy, n_mix_add, n_mix_scale, n_mix_swap, n_mix_set, n_mix_copy, n_scale_add, n_scale_mix, n_scale_swap, n_scale_set, n_scale_copy, n_swap_add, n_swap_mix, n_swap_scale, n_swap_set, n_swap_copy, n_set_add, n_set_mix, n_set_scale, n_set_swap, n_set_copy, n_copy_add, n_copy_mix, n_copy_scale, n_copy_swap, n_copy_set, i_add_addset, i_mix_addset, i_scale_addset, i_swap_addset, i_set_addset, i_copy_addset, i_add_setcopy, i_mix_setcopy, i_scale_setcopy, i_swap_setcopy, i_set_setcopy, i_copy_setcopy, i_add_mixcopy, i_mix_mixcopy, i_scale_mixcopy, i_swap_mixcopy, i_set_mixcopy, i_copy_mixcopy, MH.seq, listF, tupleF, allF, MF.bools_map, ixD2, dgetD, dkey, eDct, ePs, putDct, keysD, mergeD, putD, valD, gn1, gn0, gn00, gs10, gs01, aI0, aI1, aI2, aI3, c__law_loses, loc, lo, m__law_loses, b__law_loses, lb]⟩
  | mix => exact ⟨false, by simp [runD, sSeq, sRet, sIf, sSet, sEx, sSub, sNil, eVar, eC, eOp, eChain, tTruth, tBl, tNotM, tAndM, tOrM, eAndM, eOrM, eNotM, eIfM, aNil, aCons, eTup, eLst, mkLst, mkTup, eCB, eF, eSl, oPart, oNone, eUn, isB, truD, isiF, tyOf, subT, leD, ltD, gtD, geD, cmpD, lenF, lenN, neD, eqD, eqB, ofOpt, MM.keep, Res.bind, Res.toS, ixD, addD, subD, modD, fdivD, intF, List.replicate, setD, negD, mulD, sizeLine, sAsg, asg, asgs, items, sPar, n_add_mix, n_add_scale, n_add_swap, n_add_set, n_add_copy, n_mix_add, n_mix_scale, n_mix_swap, n_mix_set, n_mix_copy, n_scale_add, n_scale_mix, n_scale_swap, n_scale_set, n_scale_copy, n_swap_add, n_swap_mix, n_swap_scale, n_swap_set, n_swap_copy, n_set_add, n_set_mix, n_set_scale, n_set_swap, n_set_copy, n_copy_add, n_copy_mix, n_copy_scale, n_copy_swap, n_copy_set, i_add_addset, i_mix_addset, i_scale_addset, i_swap_addset, i_set_addset, i_copy_addset, i_add_setcopy, i_mix_setcopy, i_scale_setcopy, i_swap_setcopy, i_set_setcopy, i_copy_setcopy, i_add_mixcopy, i_mix_mixcopy, i_scale_mixcopy, i_swap_mixcopy, i_set_mixcopy, i_copy_mixcopy, MH.seq, listF, tupleF, allF, MF.bools_map, ixD2, dgetD, dkey, eDct, ePs, putDct, keysD, mergeD, putD, valD, gn1, gn0, gn00, gs10, gs01, aI0, aI1, aI2, aI3, c_loses, loc, lo, m_loses, b_loses, lb], by simp [runD, sSeq, sRet, sIf, sSet, sEx, sSub, sNil, eVar, eC, eOp, eChain, tTruth, tBl, tNotM, tAndM, tOrM, eAndM, eOrM, eNotM, eIfM, aNil, aCons, eTup, eLst, mkLst, mkTup, eCB, eF, eSl, oPart, oNone, eUn, isB, truD, isiF, tyOf, subT, leD, ltD, gtD, geD, cmpD, lenF, lenN, neD, eqD, eqB, ofOpt, MM.keep, Res.bind, Res.toS, ixD, addD, subD, modD, fdivD, intF, List.replicate, setD, negD, mulD, sizeLine, sAsg, asg, asgs, items, sPar, n_add_mix, n_add_scale, n_add_swap, n_add_set, n_add_copy, n_mix_add, n_mix_scale, n_mix_swap, n_mix_set, n_mix_copy, n_scale_add, n_scale_mix, n_scale_swap, n_scale_set, n_scale_copy, n_swap_add, n_swap_mix, n_swap_scale, n_swap_set, n_swap_copy, n_set_add, n_set_mix, n_set_scale, n_set_swap, n_set_copy, n_copy_add, n_copy_mix, n_copy_scale, n_copy_swap, n_copy_set, i_add_addset, i_mix_addset, i_scale_addset, i_swap_addset, i_set_addset, i_copy_addset, i_add_setcopy, i_mix_setcopy, i_scale_setcopy, i_swap_setcopy, i_set_setcopy, i_copy_setcopy, i_add_mixcopy, i_mix_mixcopy, i_scale_mixcopy, i_swap_mixcopy, i_set_mixcopy, i_copy_mixcopy, MH.seq, listF, tupleF, allF, MF.bools_map, ixD2, dgetD, dkey, eDct, ePs, putDct, keysD, mergeD, putD, valD, gn1, gn0, gn00, gs10, gs01, aI0, aI1, aI2, aI3, c__law_loses, loc, lo, m__law_loses, b__law_loses, lb]⟩
  | swap => exact ⟨false, by simp [runD, sSeq, sRet, sIf, sSet, sEx, sSub, sNil, eVar, eC, eOp, eChain, tTruth, tBl, tNotM, tAndM, tOrM, eAndM, eOrM, eNotM, eIfM, aNil, aCons, eTup, eLst, mkLst, mkTup, eCB, eF, eSl, oPart, oNone, eUn, isB, truD, isiF, tyOf, subT, leD, ltD, gtD, geD, cmpD, lenF, lenN, neD, eqD, eqB, ofOpt, MM.keep, Res.bind, Res.toS, ixD, addD, subD, modD, fdivD, intF, List.replicate, setD, negD, mulD, sizeLine, sAsg, asg, asgs, items, sPar, n_add_mix, n_add_scale, n_add_swap, n_add_set, n_add_copy, n_mix_add, n_mix_scale, n_mix_swap, n_mix_set, n_mix_copy, n_scale_add, n_scale_mix, n_scale_swap, n_scale_set, n_scale_copy, n_swap_add, n_swap_mix, n_swap_scale, n_swap_set, n_swap_copy, n_set_add, n_set_mix, n_set_scale, n_set_swap, n_set_copy, n_copy_add, n_copy_mix, n_copy_scale, n_copy_swap, n_copy_set, i_add_addset, i_mix_addset, i_scale_addset, i_swap_addset, i_set_addset, i_copy_addset, i_add_setcopy, i_mix_setcopy, i_scale_setcopy, i_swap_setcopy, i_set_setcopy, i_copy_setcopy, i_add_mixcopy, i_mix_mixcopy, i_scale_mixcopy, i_swap_mixcopy, i_set_mixcopy, i_copy_mixcopy, MH.seq, listF, tupleF, allF, MF.bools_map, ixD2, dgetD, dkey, eDct, ePs, putDct, keysD, mergeD, putD, valD, gn1, gn0, gn00, gs10, gs01, aI0, aI1, aI2, aI3, c_loses, loc, lo, m_loses, b_loses, lb], by simp [runD, sSeq, sRet, sIf, sSet, sEx, sSub, sNil, eVar, eC, eOp, eChain, tTruth, tBl, tNotM, tAndM, tOrM, eAndM, eOrM, eNotM, eIfM, aNil, aCons, eTup, eLst, mkLst, mkTup, eCB, eF, eSl, oPart, oNone, eUn, isB, truD, isiF, tyOf, subT, leD, ltD, gtD, geD, cmpD, lenF, lenN, neD, eqD, eqB, ofOpt, MM.keep, Res.bind, Res.toS, ixD, addD, subD, modD, fdivD, intF, List.replicate, setD, negD, mulD, sizeLine, sAsg, asg, asgs, items, sPar, n_add_mix, n_add_scale, n_add_swap, n_add_set, n_add_copy, n_mix_add, n_mix_scale, n_mix_swap, n_mix_set, n_mix_copy, n_scale_add, n_scale_mix, n_scale_swap, n_scale_set, n_scale_copy, n_swap_add, n_swap_mix, n_swap_scale, n_swap_set, n_swap_copy, n_set_add, n_set_mix, n_set_scale, n_set_swap, n_set_copy, n_copy_add, n_copy_mix, n_copy_scale, n_copy_swap, n_copy_set, i_add_addset, i_mix_addset, i_scale_addset, i_swap_addset, i_set_addset, i_copy_addset, i_add_setcopy, i_mix_setcopy, i_scale_setcopy, i_swap_setcopy, i_set_setcopy, i_copy_setcopy, i_add_mixcopy, i_mix_mixcopy, i_scale_mixcopy, i_swap_mixcopy, i_set_mixcopy, i_copy_mixcopy, MH.seq, listF, tupleF, allF, MF.bools_map, ixD2, dgetD, dkey, eDct, ePs, putDct, keysD, mergeD, putD, valD, gn1, gn0, gn00, gs10, gs01, aI0, aI1, aI2, aI3, c__law_loses, loc, lo, m__law_loses, b__law_loses, lb]⟩
  | set => exact ⟨true, by simp [runD, sSeq, sRet, sIf, sSet, sEx, sSub, sNil, eVar, eC, eOp, eChain, tTruth, tBl, tNotM, tAndM, tOrM, eAndM, eOrM, eNotM, eIfM, aNil, aCons, eTup, eLst, mkLst, mkTup, eCB, eF, eSl, oPart, oNone, eUn, isB, truD, isiF, tyOf, subT, leD, ltD, gtD, geD, cmpD, lenF, lenN, neD, eqD, eqB, ofOpt, MM.keep, Res.bind, Res.toS, ixD, addD, subD, modD, fdivD, intF, List.replicate, setD, negD, mulD, sizeLine, sAsg, asg, asgs, items, sPar, n_add_mix, n_add_scale, n_add_swap, n_add_set, n_add_copy, n_mix_add, n_mix_scale, n_mix_swap, n_mix_set, n_mix_copy, n_scale_add, n_scale_mix, n_scale_swap, n_scale_set, n_scale_copy, n_swap_add, n_swap_mix, n_swap_scale, n_swap_set, n_swap_copy, n_set_add, n_set_mix, n_set_scale, n_set_swap, n_set_copy, n_copy_add, n_copy_mix, n_copy_scale, n_copy_swap, n_copy_set, i_add_addset, i_mix_addset, i_scale_addset, i_swap_addset, i_set_addset, i_copy_addset, i_add_setcopy, i_mix_setcopy, i_scale_setcopy, i_swap_setcopy, i_set_setcopy, i_copy_setcopy, i_add_mixcopy, i_mix_mixcopy, i_scale_mixcopy, i_swap_mixcopy, i_set_mixcopy, i_copy_mixcopy, MH.seq, listF, tupleF, allF, MF.bools_map, ixD2, dgetD, dkey, eDct, ePs, putDct, keysD, mergeD, putD, valD, gn1, gn0, gn00, gs10, gs01, aI0, aI1, aI2, aI3, c_loses, loc, lo, m_loses, b_loses, lb], by simp [runD, sSeq, sRet, sIf, sSet, sEx, sSub, sNil, eVar, eC, eOp, eChain, tTruth, tBl, tNotM, tAndM, tOrM, eAndM, eOrM, eNotM, eIfM, aNil, aCons, eTup, eLst, mkLst, mkTup, eCB, eF, eSl, oPart, oNone, eUn, isB, truD, isiF, tyOf, subT, leD, ltD, gtD, geD, cmpD, lenF, lenN, neD, eqD, eqB, ofOpt, MM.keep, Res.bind, Res.toS, ixD, addD, subD, modD, fdivD, intF, List.replicate, setD, negD, mulD, sizeLine, sAsg, asg, asgs, items, sPar, n_add_mix, n_add_scale, n_add_swap, n_add_set, n_add_copy, n_mix_add, n_mix_scale, n_mix_swap, n_mix_set, n_mix_copy, n_scale_add, n_scale_mix, n_scale_swap, n_scale_set, n_scale_copy, n_swap_add, n_swap_mix, n_swap_scale, n_swap_set, n_swap_copy, n_set_add, n_set_mix, n_set_scale, n_set_swap, n_set_copy, n_copy_add, n_copy_mix, n_copy_scale, n_copy_swap, n_copy_set, i_add_addset, i_mix_addset, i_scale_addset, i_swap_addset, i_set_addset, i_copy_addset, i_add_setcopy, i_mix_setcopy, i_scale_setcopy, i_swap_setcopy, i_set_setcopy, i_copy_setcopy, i_add_mixcopy, i_mix_mixcopy, i_scale_mixcopy, i_swap_mixcopy, i_set_mixcopy, i_copy_mixcopy, MH.seq, listF, tupleF, allF, MF.bools_map, ixD2, dgetD, dkey, eDct, ePs, putDct, keysD, mergeD, putD, valD, gn1, gn0, gn00, gs10, gs01, aI0, aI1, aI2, aI3, c__law_loses, loc, lo, m__law_loses, b__law_loses, lb]⟩
  | copy => exact ⟨true, by simp [runD, sSeq, sRet, sIf, sSet, sEx, sSub, sNil, eVar, eC, eOp, eChain, tTruth, tBl, tNotM, tAndM, tOrM, eAndM, eOrM, eNotM, eIfM, aNil, aCons, eTup, eLst, mkLst, mkTup, eCB, eF, eSl, oPart, oNone, eUn, isB, truD, isiF, tyOf, subT, leD, ltD, gtD, geD, cmpD, lenF, lenN, neD, eqD, eqB, ofOpt, MM.keep, Res.bind, Res.toS, ixD, addD, subD, modD, fdivD, intF, List.replicate, setD, negD, mulD, sizeLine, sAsg, asg, asgs, items, sPar, n_add_mix, n_add_scale, n_add_swap, n_add_set, n_add_copy, n_mix_add, n_mix_scale, n_mix_swap, n_mix_set, n_mix_copy, n_scale_add, n_scale_mix, n_scale_swap, n_scale_set, n_scale_copy, n_swap_add, n_swap_mix, n_swap_scale, n_swap_set, n_swap_copy, n_set_add, n_set_mix, n_set_scale, n_set_swap, n_set_copy, n_copy_add, n_copy_mix, n_copy_scale, n_copy_swap, n_copy_set, i_add_addset, i_mix_addset, i_scale_addset, i_swap_addset, i_set_addset, i_copy_addset, i_add_setcopy, i_mix_setcopy, i_scale_setcopy, i_swap_setcopy, i_set_setcopy, i_copy_setcopy, i_add_mixcopy, i_mix_mixcopy, i_scale_mixcopy, i_swap_mixcopy, i_set_mixcopy, i_copy_mixcopy, MH.seq, listF, tupleF, allF, MF.bools_map, ixD2, dgetD, dkey, eDct, ePs, putDct, keysD, mergeD, putD, valD, gn1, gn0, gn00, gs10, gs01, aI0, aI1, aI2, aI3, c_loses, loc, lo, m_loses, b_loses, lb], by simp [runD, sSeq, sRet, sIf, sSet, sEx, sSub, sNil, eVar, eC, eOp, eChain, tTruth, tBl, tNotM, tAndM, tOrM, eAndM, eOrM, eNotM, eIfM, aNil, aCons, eTup, eLst, mkLst, mkTup, eCB, eF, eSl, oPart, oNone, eUn, isB, truD, isiF, tyOf, subT, leD, ltD, gtD, geD, cmpD, lenF, lenN, neD, eqD, eqB, ofOpt, MM.keep, Res.bind, Res.toS, ixD, addD, subD, modD, fdivD, intF, List.replicate, setD, negD, mulD, sizeLine, sAsg, asg, asgs, items, sPar, n_add_mix, n_add_scale, n_add_swap, n_add_set, n_add_copy, n_mix_add, n_mix_scale, n_mix_swap, n_mix_set, n_mix_copy, n_scale_add, n_scale_mix, n_scale_swap, n_scale_set, n_scale_copy, n_swap_add, n_swap_mix, n_swap_scale, n_swap_set, n_swap_copy, n_set_add, n_set_mix, n_set_scale, n_set_swap, n_set_copy, n_copy_add, n_copy_mix, n_copy_scale, n_copy_swap, n_copy_set, i_add_addset, i_mix_addset, i_scale_addset, i_swap_addset, i_set_addset, i_copy_addset, i_add_setcopy, i_mix_setcopy, i_scale_setcopy, i_swap_setcopy, i_set_setcopy, i_copy_setcopy, i_add_mixcopy, i_mix_mixcopy, i_scale_mixcopy, i_swap_mixcopy, i_set_mixcopy, i_copy_mixcopy, MH.seq, listF, tupleF, allF, MF.bools_map, ixD2, dgetD, dkey, eDct, ePs, putDct, keysD, mergeD, putD, valD, gn1, gn0, gn00, gs10, gs01, aI0, aI1, aI2, aI3, c__law_loses, loc, lo, m__law_loses, b__law_loses, lb]⟩
/-! ### what is drawn -/
theorem take {i : Nat} {h : MH} (l : i < h.n) (f : ∃ a b : Int, h.get i = some (.lst [.int a, .int b])) {m : Int} (h0 : 0 < m) (h1 : m < 1073741824) :
    ∃ (r : Int) (h' : MH), 0 ≤ r ∧ r < m ∧ m__law_take [.ref i, .int m] h = .ok (.int r) h' ∧ Fd i h h' ∧ h'.n = h.n := MF.take l f h0 h1
theorem pick {i j : Nat} {h : MH} (l : i < h.n) (f : ∃ a b : Int, h.get i = some (.lst [.int a, .int b])) {xs : List D} (g : h.get j = some (.lst xs)) (hj : j ≠ i) (lj : j < h.n) (h0 : xs ≠ []) (h1 : xs.length < 1000) :
    ∃ (x : D) (h' : MH), x ∈ xs ∧ m__law_pick [.ref i, .ref j] h = .ok x h' ∧ Fd i h h' ∧ h'.n = h.n := MF.pick l f g hj lj h0 h1
theorem snap_ints (h : MH) (g : Nat) (ns : List Int) : snaps (snap h g) (ns.map D.int) = some (ns.map PyData.int) := by
  induction ns with
  | nil => rfl
  | cons n ns ih =>
    have : snap h g (.int n) = some (.int n) := by cases g <;> rfl
    simp [runD, sSeq, sRet, sIf, sSet, sEx, sSub, sNil, eVar, eC, eOp, eChain, tTruth, tBl, tNotM, tAndM, tOrM, eAndM, eOrM, eNotM, eIfM, aNil, aCons, eTup, eLst, mkLst, mkTup, eCB, eF, eSl, oPart, oNone, eUn, isB, truD, isiF, tyOf, subT, leD, ltD, gtD, geD, cmpD, lenF, lenN, neD, eqD, eqB, ofOpt, MM.keep, Res.bind, Res.toS, ixD, addD, subD, modD, fdivD, intF, List.replicate, setD, negD, mulD, sizeLine, sAsg, asg, asgs, items, sPar, n_add_mix, n_add_scale, n_add_swap, n_add_set, n_add_copy, n_mix_add, n_mix_scale, n_mix_swap, n_mix_set, n_mix_copy, n_scale_add, n_scale_mix, n_scale_swap, n_scale_set, n_scale_copy, n_swap_add, n_swap_mix, n_swap_scale, n_swap_set, n_swap_copy, n_set_add, n_set_mix, n_set_scale, n_set_swap, n_set_copy, n_copy_add, n_copy_mix, n_copy_scale, n_copy_swap, n_copy_set, i_add_addset, i_mix_addset, i_scale_addset, i_swap_addset, i_set_addset, i_copy_addset, i_add_setcopy, i_mix_setcopy, i_scale_setcopy, i_swap_setcopy, i_set_setcopy, i_copy_setcopy, i_add_mixcopy, i_mix_mixcopy, i_scale_mixcopy, i_swap_mixcopy, i_set_mixcopy, i_copy_mixcopy, MH.seq, listF, tupleF, allF, MF.bools_map, ixD2, dgetD, dkey, eDct, ePs, putDct, keysD, mergeD, putD, valD, gn1, gn0, gn00, gs10, gs01, aI0, aI1, aI2, aI3, snaps, ih, this]
theorem lay_ints (ns : List Int) : PyData.canLayAll0 (ns.map PyData.int) = true ∧ PyData.depthAll (ns.map PyData.int) = 0 := by
  induction ns with
  | nil => exact ⟨rfl, rfl⟩
  | cons n ns ih => simp [runD, sSeq, sRet, sIf, sSet, sEx, sSub, sNil, eVar, eC, eOp, eChain, tTruth, tBl, tNotM, tAndM, tOrM, eAndM, eOrM, eNotM, eIfM, aNil, aCons, eTup, eLst, mkLst, mkTup, eCB, eF, eSl, oPart, oNone, eUn, isB, truD, isiF, tyOf, subT, leD, ltD, gtD, geD, cmpD, lenF, lenN, neD, eqD, eqB, ofOpt, MM.keep, Res.bind, Res.toS, ixD, addD, subD, modD, fdivD, intF, List.replicate, setD, negD, mulD, sizeLine, sAsg, asg, asgs, items, sPar, n_add_mix, n_add_scale, n_add_swap, n_add_set, n_add_copy, n_mix_add, n_mix_scale, n_mix_swap, n_mix_set, n_mix_copy, n_scale_add, n_scale_mix, n_scale_swap, n_scale_set, n_scale_copy, n_swap_add, n_swap_mix, n_swap_scale, n_swap_set, n_swap_copy, n_set_add, n_set_mix, n_set_scale, n_set_swap, n_set_copy, n_copy_add, n_copy_mix, n_copy_scale, n_copy_swap, n_copy_set, i_add_addset, i_mix_addset, i_scale_addset, i_swap_addset, i_set_addset, i_copy_addset, i_add_setcopy, i_mix_setcopy, i_scale_setcopy, i_swap_setcopy, i_set_setcopy, i_copy_setcopy, i_add_mixcopy, i_mix_mixcopy, i_scale_mixcopy, i_swap_mixcopy, i_set_mixcopy, i_copy_mixcopy, MH.seq, listF, tupleF, allF, MF.bools_map, ixD2, dgetD, dkey, eDct, ePs, putDct, keysD, mergeD, putD, valD, gn1, gn0, gn00, gs10, gs01, aI0, aI1, aI2, aI3, PyData.canLayAll0, PyData.depthAll, PyData.canLay0, PyData.depth, ih.1, ih.2]
theorem shaped_ints (ns : List Int) : SeqAt.shaped (.list (ns.map PyData.int)) = true := by
  have := lay_ints ns
  simp [runD, sSeq, sRet, sIf, sSet, sEx, sSub, sNil, eVar, eC, eOp, eChain, tTruth, tBl, tNotM, tAndM, tOrM, eAndM, eOrM, eNotM, eIfM, aNil, aCons, eTup, eLst, mkLst, mkTup, eCB, eF, eSl, oPart, oNone, eUn, isB, truD, isiF, tyOf, subT, leD, ltD, gtD, geD, cmpD, lenF, lenN, neD, eqD, eqB, ofOpt, MM.keep, Res.bind, Res.toS, ixD, addD, subD, modD, fdivD, intF, List.replicate, setD, negD, mulD, sizeLine, sAsg, asg, asgs, items, sPar, n_add_mix, n_add_scale, n_add_swap, n_add_set, n_add_copy, n_mix_add, n_mix_scale, n_mix_swap, n_mix_set, n_mix_copy, n_scale_add, n_scale_mix, n_scale_swap, n_scale_set, n_scale_copy, n_swap_add, n_swap_mix, n_swap_scale, n_swap_set, n_swap_copy, n_set_add, n_set_mix, n_set_scale, n_set_swap, n_set_copy, n_copy_add, n_copy_mix, n_copy_scale, n_copy_swap, n_copy_set, i_add_addset, i_mix_addset, i_scale_addset, i_swap_addset, i_set_addset, i_copy_addset, i_add_setcopy, i_mix_setcopy, i_scale_setcopy, i_swap_setcopy, i_set_setcopy, i_copy_setcopy, i_add_mixcopy, i_mix_mixcopy, i_scale_mixcopy, i_swap_mixcopy, i_set_mixcopy, i_copy_mixcopy, MH.seq, listF, tupleF, allF, MF.bools_map, ixD2, dgetD, dkey, eDct, ePs, putDct, keysD, mergeD, putD, valD, gn1, gn0, gn00, gs10, gs01, aI0, aI1, aI2, aI3, SeqAt.shaped, PyData.canLay0, PyData.depth, this.1, this.2]
/-- is the list empty -/
theorem neNil {h : MH} {a b : Nat} {ns : List Int} (ga : h.get a = some (.lst (ns.map .int))) (gb : h.get b = some (.lst [])) : neD (.ref a) (.ref b) h = some (.bl (!ns.isEmpty), h) := by
  have s1 := shaped_ints ns
  have s2 : SeqAt.shaped (.list []) = true := by decide
  have e : PyData.eqv (.list (ns.map PyData.int)) (.list []) = ns.isEmpty := by cases ns <;> simp [runD, sSeq, sRet, sIf, sSet, sEx, sSub, sNil, eVar, eC, eOp, eChain, tTruth, tBl, tNotM, tAndM, tOrM, eAndM, eOrM, eNotM, eIfM, aNil, aCons, eTup, eLst, mkLst, mkTup, eCB, eF, eSl, oPart, oNone, eUn, isB, truD, isiF, tyOf, subT, leD, ltD, gtD, geD, cmpD, lenF, lenN, neD, eqD, eqB, ofOpt, MM.keep, Res.bind, Res.toS, ixD, addD, subD, modD, fdivD, intF, List.replicate, setD, negD, mulD, sizeLine, sAsg, asg, asgs, items, sPar, n_add_mix, n_add_scale, n_add_swap, n_add_set, n_add_copy, n_mix_add, n_mix_scale, n_mix_swap, n_mix_set, n_mix_copy, n_scale_add, n_scale_mix, n_scale_swap, n_scale_set, n_scale_copy, n_swap_add, n_swap_mix, n_swap_scale, n_swap_set, n_swap_copy, n_set_add, n_set_mix, n_set_scale, n_set_swap, n_set_copy, n_copy_add, n_copy_mix, n_copy_scale, n_copy_swap, n_copy_set, i_add_addset, i_mix_addset, i_scale_addset, i_swap_addset, i_set_addset, i_copy_addset, i_add_setcopy, i_mix_setcopy, i_scale_setcopy, i_swap_setcopy, i_set_setcopy, i_copy_setcopy, i_add_mixcopy, i_mix_mixcopy, i_scale_mixcopy, i_swap_mixcopy, i_set_mixcopy, i_copy_mixcopy, MH.seq, listF, tupleF, allF, MF.bools_map, ixD2, dgetD, dkey, eDct, ePs, putDct, keysD, mergeD, putD, valD, gn1, gn0, gn00, gs10, gs01, aI0, aI1, aI2, aI3, PyData.eqv, PyData.eqvAll]
  have sa := MH.seq_lst ga
  have sb := MH.seq_lst gb
  have n0 : snaps (snap h 39) [] = some [] := rfl
  simp only [neD, eqB, deep, snap, sa, sb, snap_ints, n0, Option.map_some, s1, s2, Bool.and_self, if_true, e]
/-- a comprehension over a range -/
theorem rangeC {n : Nat} {s : Nat} {tt : Mt} {env : ME} (hn : n ≤ 64) (hs : s < env.length) (he : env[s]? = some none) (p : Int → Bool) (h : MH)
    (htt : ∀ (k : Nat) (h' : MH), k < n → Ext h h' → tt (env.set s (some (.int k))) h' = .ok (p k) h') :
    ∃ (os : List Int) (h1 : MH), lcL (.rng 0 n) (.nm s) tt (eVar s) env h.n n 0 (h.add (.lst [])) = some h1 ∧ Ext h h1 ∧ h1.n = h.n + 1 ∧ h1.get h.n = some (.lst (os.map .int)) ∧ os.length ≤ n ∧ ∀ o ∈ os, 0 ≤ o ∧ o < n ∧ p o = true := by
  obtain ⟨acc, h', e, q1, q2, q3, os, q4, q5, q6⟩ := lcL_spec (it := .rng 0 n) (t := .nm s) (tt := tt) (te := eVar s) (env := env) (L := h.n)
    (fun k acc h' => Ext h h' ∧ h'.n = h.n + 1 ∧ h'.get h.n = some (.lst acc) ∧ ∃ os : List Int, acc = os.map .int ∧ os.length ≤ k ∧ ∀ o ∈ os, 0 ≤ o ∧ o < n ∧ p o = true) (acc0 := []) (h0 := h.add (.lst []))
    ⟨.add _, rfl, MH.get_add_same _ _, [], rfl, Nat.le_refl _, by simp [runD, sSeq, sRet, sIf, sSet, sEx, sSub, sNil, eVar, eC, eOp, eChain, tTruth, tBl, tNotM, tAndM, tOrM, eAndM, eOrM, eNotM, eIfM, aNil, aCons, eTup, eLst, mkLst, mkTup, eCB, eF, eSl, oPart, oNone, eUn, isB, truD, isiF, tyOf, subT, leD, ltD, gtD, geD, cmpD, lenF, lenN, neD, eqD, eqB, ofOpt, MM.keep, Res.bind, Res.toS, ixD, addD, subD, modD, fdivD, intF, List.replicate, setD, negD, mulD, sizeLine, sAsg, asg, asgs, items, sPar, n_add_mix, n_add_scale, n_add_swap, n_add_set, n_add_copy, n_mix_add, n_mix_scale, n_mix_swap, n_mix_set, n_mix_copy, n_scale_add, n_scale_mix, n_scale_swap, n_scale_set, n_scale_copy, n_swap_add, n_swap_mix, n_swap_scale, n_swap_set, n_swap_copy, n_set_add, n_set_mix, n_set_scale, n_set_swap, n_set_copy, n_copy_add, n_copy_mix, n_copy_scale, n_copy_swap, n_copy_set, i_add_addset, i_mix_addset, i_scale_addset, i_swap_addset, i_set_addset, i_copy_addset, i_add_setcopy, i_mix_setcopy, i_scale_setcopy, i_swap_setcopy, i_set_setcopy, i_copy_setcopy, i_add_mixcopy, i_mix_mixcopy, i_scale_mixcopy, i_swap_mixcopy, i_set_mixcopy, i_copy_mixcopy, MH.seq, listF, tupleF, allF, MF.bools_map, ixD2, dgetD, dkey, eDct, ePs, putDct, keysD, mergeD, putD, valD, gn1, gn0, gn00, gs10, gs01, aI0, aI1, aI2, aI3]⟩
    (fun k acc h' hk ⟨q1, q2, q3, os, q4, q5, q6⟩ => by
      have hk' : k < n := hk
      refine ⟨.int (0 + k), env.set s (some (.int (0 + k))), rfl, rfl, ?_⟩
      rw [Int.zero_add]
      cases hp : p k with
      | false => exact .inl ⟨h', by rw [htt k h' hk' q1, hp], q1, q2, q3, os, q4, by omega, q6⟩
      | true =>
        refine .inr ⟨h', .int k, h', by rw [htt k h' hk' q1, hp], by simp [runD, sSeq, sRet, sIf, sSet, sEx, sSub, sNil, eVar, eC, eOp, eChain, tTruth, tBl, tNotM, tAndM, tOrM, eAndM, eOrM, eNotM, eIfM, aNil, aCons, eTup, eLst, mkLst, mkTup, eCB, eF, eSl, oPart, oNone, eUn, isB, truD, isiF, tyOf, subT, leD, ltD, gtD, geD, cmpD, lenF, lenN, neD, eqD, eqB, ofOpt, MM.keep, Res.bind, Res.toS, ixD, addD, subD, modD, fdivD, intF, List.replicate, setD, negD, mulD, sizeLine, sAsg, asg, asgs, items, sPar, n_add_mix, n_add_scale, n_add_swap, n_add_set, n_add_copy, n_mix_add, n_mix_scale, n_mix_swap, n_mix_set, n_mix_copy, n_scale_add, n_scale_mix, n_scale_swap, n_scale_set, n_scale_copy, n_swap_add, n_swap_mix, n_swap_scale, n_swap_set, n_swap_copy, n_set_add, n_set_mix, n_set_scale, n_set_swap, n_set_copy, n_copy_add, n_copy_mix, n_copy_scale, n_copy_swap, n_copy_set, i_add_addset, i_mix_addset, i_scale_addset, i_swap_addset, i_set_addset, i_copy_addset, i_add_setcopy, i_mix_setcopy, i_scale_setcopy, i_swap_setcopy, i_set_setcopy, i_copy_setcopy, i_add_mixcopy, i_mix_mixcopy, i_scale_mixcopy, i_swap_mixcopy, i_set_mixcopy, i_copy_mixcopy, MH.seq, listF, tupleF, allF, MF.bools_map, ixD2, dgetD, dkey, eDct, ePs, putDct, keysD, mergeD, putD, valD, gn1, gn0, gn00, gs10, gs01, aI0, aI1, aI2, aI3, hs], q3, ?_, ?_⟩
        · have : acc.length ≤ k := by rw [q4]; simpa [runD, sSeq, sRet, sIf, sSet, sEx, sSub, sNil, eVar, eC, eOp, eChain, tTruth, tBl, tNotM, tAndM, tOrM, eAndM, eOrM, eNotM, eIfM, aNil, aCons, eTup, eLst, mkLst, mkTup, eCB, eF, eSl, oPart, oNone, eUn, isB, truD, isiF, tyOf, subT, leD, ltD, gtD, geD, cmpD, lenF, lenN, neD, eqD, eqB, ofOpt, MM.keep, Res.bind, Res.toS, ixD, addD, subD, modD, fdivD, intF, List.replicate, setD, negD, mulD, sizeLine, sAsg, asg, asgs, items, sPar, n_add_mix, n_add_scale, n_add_swap, n_add_set, n_add_copy, n_mix_add, n_mix_scale, n_mix_swap, n_mix_set, n_mix_copy, n_scale_add, n_scale_mix, n_scale_swap, n_scale_set, n_scale_copy, n_swap_add, n_swap_mix, n_swap_scale, n_swap_set, n_swap_copy, n_set_add, n_set_mix, n_set_scale, n_set_swap, n_set_copy, n_copy_add, n_copy_mix, n_copy_scale, n_copy_swap, n_copy_set, i_add_addset, i_mix_addset, i_scale_addset, i_swap_addset, i_set_addset, i_copy_addset, i_add_setcopy, i_mix_setcopy, i_scale_setcopy, i_swap_setcopy, i_set_setcopy, i_copy_setcopy, i_add_mixcopy, i_mix_mixcopy, i_scale_mixcopy, i_swap_mixcopy, i_set_mixcopy, i_copy_mixcopy, MH.seq, listF, tupleF, allF, MF.bools_map, ixD2, dgetD, dkey, eDct, ePs, putDct, keysD, mergeD, putD, valD, gn1, gn0, gn00, gs10, gs01, aI0, aI1, aI2, aI3] using q5
          simp [runD, sSeq, sRet, sIf, sSet, sEx, sSub, sNil, eVar, eC, eOp, eChain, tTruth, tBl, tNotM, tAndM, tOrM, eAndM, eOrM, eNotM, eIfM, aNil, aCons, eTup, eLst, mkLst, mkTup, eCB, eF, eSl, oPart, oNone, eUn, isB, truD, isiF, tyOf, subT, leD, ltD, gtD, geD, cmpD, lenF, lenN, neD, eqD, eqB, ofOpt, MM.keep, Res.bind, Res.toS, ixD, addD, subD, modD, fdivD, intF, List.replicate, setD, negD, mulD, sizeLine, sAsg, asg, asgs, items, sPar, n_add_mix, n_add_scale, n_add_swap, n_add_set, n_add_copy, n_mix_add, n_mix_scale, n_mix_swap, n_mix_set, n_mix_copy, n_scale_add, n_scale_mix, n_scale_swap, n_scale_set, n_scale_copy, n_swap_add, n_swap_mix, n_swap_scale, n_swap_set, n_swap_copy, n_set_add, n_set_mix, n_set_scale, n_set_swap, n_set_copy, n_copy_add, n_copy_mix, n_copy_scale, n_copy_swap, n_copy_set, i_add_addset, i_mix_addset, i_scale_addset, i_swap_addset, i_set_addset, i_copy_addset, i_add_setcopy, i_mix_setcopy, i_scale_setcopy, i_swap_setcopy, i_set_setcopy, i_copy_setcopy, i_add_mixcopy, i_mix_mixcopy, i_scale_mixcopy, i_swap_mixcopy, i_set_mixcopy, i_copy_mixcopy, MH.seq, listF, tupleF, allF, MF.bools_map, ixD2, dgetD, dkey, eDct, ePs, putDct, keysD, mergeD, putD, valD, gn1, gn0, gn00, gs10, gs01, aI0, aI1, aI2, aI3]
          omega
        · refine ⟨⟨by simpa [runD, sSeq, sRet, sIf, sSet, sEx, sSub, sNil, eVar, eC, eOp, eChain, tTruth, tBl, tNotM, tAndM, tOrM, eAndM, eOrM, eNotM, eIfM, aNil, aCons, eTup, eLst, mkLst, mkTup, eCB, eF, eSl, oPart, oNone, eUn, isB, truD, isiF, tyOf, subT, leD, ltD, gtD, geD, cmpD, lenF, lenN, neD, eqD, eqB, ofOpt, MM.keep, Res.bind, Res.toS, ixD, addD, subD, modD, fdivD, intF, List.replicate, setD, negD, mulD, sizeLine, sAsg, asg, asgs, items, sPar, n_add_mix, n_add_scale, n_add_swap, n_add_set, n_add_copy, n_mix_add, n_mix_scale, n_mix_swap, n_mix_set, n_mix_copy, n_scale_add, n_scale_mix, n_scale_swap, n_scale_set, n_scale_copy, n_swap_add, n_swap_mix, n_swap_scale, n_swap_set, n_swap_copy, n_set_add, n_set_mix, n_set_scale, n_set_swap, n_set_copy, n_copy_add, n_copy_mix, n_copy_scale, n_copy_swap, n_copy_set, i_add_addset, i_mix_addset, i_scale_addset, i_swap_addset, i_set_addset, i_copy_addset, i_add_setcopy, i_mix_setcopy, i_scale_setcopy, i_swap_setcopy, i_set_setcopy, i_copy_setcopy, i_add_mixcopy, i_mix_mixcopy, i_scale_mixcopy, i_swap_mixcopy, i_set_mixcopy, i_copy_mixcopy, MH.seq, listF, tupleF, allF, MF.bools_map, ixD2, dgetD, dkey, eDct, ePs, putDct, keysD, mergeD, putD, valD, gn1, gn0, gn00, gs10, gs01, aI0, aI1, aI2, aI3] using q1.le, fun j l => by rw [MH.get_set_ne _ _ (by omega)]; exact q1.ot j l⟩, by simpa [runD, sSeq, sRet, sIf, sSet, sEx, sSub, sNil, eVar, eC, eOp, eChain, tTruth, tBl, tNotM, tAndM, tOrM, eAndM, eOrM, eNotM, eIfM, aNil, aCons, eTup, eLst, mkLst, mkTup, eCB, eF, eSl, oPart, oNone, eUn, isB, truD, isiF, tyOf, subT, leD, ltD, gtD, geD, cmpD, lenF, lenN, neD, eqD, eqB, ofOpt, MM.keep, Res.bind, Res.toS, ixD, addD, subD, modD, fdivD, intF, List.replicate, setD, negD, mulD, sizeLine, sAsg, asg, asgs, items, sPar, n_add_mix, n_add_scale, n_add_swap, n_add_set, n_add_copy, n_mix_add, n_mix_scale, n_mix_swap, n_mix_set, n_mix_copy, n_scale_add, n_scale_mix, n_scale_swap, n_scale_set, n_scale_copy, n_swap_add, n_swap_mix, n_swap_scale, n_swap_set, n_swap_copy, n_set_add, n_set_mix, n_set_scale, n_set_swap, n_set_copy, n_copy_add, n_copy_mix, n_copy_scale, n_copy_swap, n_copy_set, i_add_addset, i_mix_addset, i_scale_addset, i_swap_addset, i_set_addset, i_copy_addset, i_add_setcopy, i_mix_setcopy, i_scale_setcopy, i_swap_setcopy, i_set_setcopy, i_copy_setcopy, i_add_mixcopy, i_mix_mixcopy, i_scale_mixcopy, i_swap_mixcopy, i_set_mixcopy, i_copy_mixcopy, MH.seq, listF, tupleF, allF, MF.bools_map, ixD2, dgetD, dkey, eDct, ePs, putDct, keysD, mergeD, putD, valD, gn1, gn0, gn00, gs10, gs01, aI0, aI1, aI2, aI3] using q2, MH.get_set_same _ _ _, os ++ [(k : Int)], by simp [runD, sSeq, sRet, sIf, sSet, sEx, sSub, sNil, eVar, eC, eOp, eChain, tTruth, tBl, tNotM, tAndM, tOrM, eAndM, eOrM, eNotM, eIfM, aNil, aCons, eTup, eLst, mkLst, mkTup, eCB, eF, eSl, oPart, oNone, eUn, isB, truD, isiF, tyOf, subT, leD, ltD, gtD, geD, cmpD, lenF, lenN, neD, eqD, eqB, ofOpt, MM.keep, Res.bind, Res.toS, ixD, addD, subD, modD, fdivD, intF, List.replicate, setD, negD, mulD, sizeLine, sAsg, asg, asgs, items, sPar, n_add_mix, n_add_scale, n_add_swap, n_add_set, n_add_copy, n_mix_add, n_mix_scale, n_mix_swap, n_mix_set, n_mix_copy, n_scale_add, n_scale_mix, n_scale_swap, n_scale_set, n_scale_copy, n_swap_add, n_swap_mix, n_swap_scale, n_swap_set, n_swap_copy, n_set_add, n_set_mix, n_set_scale, n_set_swap, n_set_copy, n_copy_add, n_copy_mix, n_copy_scale, n_copy_swap, n_copy_set, i_add_addset, i_mix_addset, i_scale_addset, i_swap_addset, i_set_addset, i_copy_addset, i_add_setcopy, i_mix_setcopy, i_scale_setcopy, i_swap_setcopy, i_set_setcopy, i_copy_setcopy, i_add_mixcopy, i_mix_mixcopy, i_scale_mixcopy, i_swap_mixcopy, i_set_mixcopy, i_copy_mixcopy, MH.seq, listF, tupleF, allF, MF.bools_map, ixD2, dgetD, dkey, eDct, ePs, putDct, keysD, mergeD, putD, valD, gn1, gn0, gn00, gs10, gs01, aI0, aI1, aI2, aI3, q4], by simp [runD, sSeq, sRet, sIf, sSet, sEx, sSub, sNil, eVar, eC, eOp, eChain, tTruth, tBl, tNotM, tAndM, tOrM, eAndM, eOrM, eNotM, eIfM, aNil, aCons, eTup, eLst, mkLst, mkTup, eCB, eF, eSl, oPart, oNone, eUn, isB, truD, isiF, tyOf, subT, leD, ltD, gtD, geD, cmpD, lenF, lenN, neD, eqD, eqB, ofOpt, MM.keep, Res.bind, Res.toS, ixD, addD, subD, modD, fdivD, intF, List.replicate, setD, negD, mulD, sizeLine, sAsg, asg, asgs, items, sPar, n_add_mix, n_add_scale, n_add_swap, n_add_set, n_add_copy, n_mix_add, n_mix_scale, n_mix_swap, n_mix_set, n_mix_copy, n_scale_add, n_scale_mix, n_scale_swap, n_scale_set, n_scale_copy, n_swap_add, n_swap_mix, n_swap_scale, n_swap_set, n_swap_copy, n_set_add, n_set_mix, n_set_scale, n_set_swap, n_set_copy, n_copy_add, n_copy_mix, n_copy_scale, n_copy_swap, n_copy_set, i_add_addset, i_mix_addset, i_scale_addset, i_swap_addset, i_set_addset, i_copy_addset, i_add_setcopy, i_mix_setcopy, i_scale_setcopy, i_swap_setcopy, i_set_setcopy, i_copy_setcopy, i_add_mixcopy, i_mix_mixcopy, i_scale_mixcopy, i_swap_mixcopy, i_set_mixcopy, i_copy_mixcopy, MH.seq, listF, tupleF, allF, MF.bools_map, ixD2, dgetD, dkey, eDct, ePs, putDct, keysD, mergeD, putD, valD, gn1, gn0, gn00, gs10, gs01, aI0, aI1, aI2, aI3]; omega, fun o ho => ?_⟩
          rcases List.mem_append.mp ho with z | z
          · exact q6 o z
          · rw [List.mem_singleton.mp z]; exact ⟨by omega, by omega, hp⟩)
    (fun _ _ _ => rfl)
  exact ⟨os, h', e, q1, q2, by rw [q3, q4], q5, q6⟩
/-- a comprehension over a list of ints -/
theorem listC {r n : Nat} {s : Nat} {tt : Mt} {env : ME} {ns : List Int} (hn : ns.length ≤ 64) (hs : s < env.length) (he : env[s]? = some none) (p : Int → Bool) (h : MH) (g : h.get r = some (.lst (ns.map .int))) (hr : r < h.n)
    (htt : ∀ (k : Int) (h' : MH), k ∈ ns → Ext h h' → tt (env.set s (some (.int k))) h' = .ok (p k) h') :
    ∃ (os : List Int) (h1 : MH), lcL (.lst r ns.length) (.nm s) tt (eVar s) env h.n ns.length 0 (h.add (.lst [])) = some h1 ∧ Ext h h1 ∧ h1.n = h.n + 1 ∧ h1.get h.n = some (.lst (os.map .int)) ∧ os.length ≤ ns.length ∧ ∀ o ∈ os, o ∈ ns ∧ p o = true := by
  have sq : ∀ h', Ext h h' → MI.seqN h' r ns.length = some (ns.map .int) := fun h' x => by
    unfold MI.seqN
    rw [MH.seq_lst ((x.ot r hr).trans g)]
    simp [runD, sSeq, sRet, sIf, sSet, sEx, sSub, sNil, eVar, eC, eOp, eChain, tTruth, tBl, tNotM, tAndM, tOrM, eAndM, eOrM, eNotM, eIfM, aNil, aCons, eTup, eLst, mkLst, mkTup, eCB, eF, eSl, oPart, oNone, eUn, isB, truD, isiF, tyOf, subT, leD, ltD, gtD, geD, cmpD, lenF, lenN, neD, eqD, eqB, ofOpt, MM.keep, Res.bind, Res.toS, ixD, addD, subD, modD, fdivD, intF, List.replicate, setD, negD, mulD, sizeLine, sAsg, asg, asgs, items, sPar, n_add_mix, n_add_scale, n_add_swap, n_add_set, n_add_copy, n_mix_add, n_mix_scale, n_mix_swap, n_mix_set, n_mix_copy, n_scale_add, n_scale_mix, n_scale_swap, n_scale_set, n_scale_copy, n_swap_add, n_swap_mix, n_swap_scale, n_swap_set, n_swap_copy, n_set_add, n_set_mix, n_set_scale, n_set_swap, n_set_copy, n_copy_add, n_copy_mix, n_copy_scale, n_copy_swap, n_copy_set, i_add_addset, i_mix_addset, i_scale_addset, i_swap_addset, i_set_addset, i_copy_addset, i_add_setcopy, i_mix_setcopy, i_scale_setcopy, i_swap_setcopy, i_set_setcopy, i_copy_setcopy, i_add_mixcopy, i_mix_mixcopy, i_scale_mixcopy, i_swap_mixcopy, i_set_mixcopy, i_copy_mixcopy, MH.seq, listF, tupleF, allF, MF.bools_map, ixD2, dgetD, dkey, eDct, ePs, putDct, keysD, mergeD, putD, valD, gn1, gn0, gn00, gs10, gs01, aI0, aI1, aI2, aI3]
  have sq2 : ∀ h', Ext h h' → h'.seq r = some (ns.map .int) := fun h' x => MH.seq_lst ((x.ot r hr).trans g)
  obtain ⟨acc, h', e, q1, q2, q3, os, q4, q5, q6⟩ := lcL_spec (it := .lst r ns.length) (t := .nm s) (tt := tt) (te := eVar s) (env := env) (L := h.n)
    (fun k acc h' => Ext h h' ∧ h'.n = h.n + 1 ∧ h'.get h.n = some (.lst acc) ∧ ∃ os : List Int, acc = os.map .int ∧ os.length ≤ k ∧ ∀ o ∈ os, o ∈ ns ∧ p o = true) (acc0 := []) (h0 := h.add (.lst []))
    ⟨.add _, rfl, MH.get_add_same _ _, [], rfl, Nat.le_refl _, by simp [runD, sSeq, sRet, sIf, sSet, sEx, sSub, sNil, eVar, eC, eOp, eChain, tTruth, tBl, tNotM, tAndM, tOrM, eAndM, eOrM, eNotM, eIfM, aNil, aCons, eTup, eLst, mkLst, mkTup, eCB, eF, eSl, oPart, oNone, eUn, isB, truD, isiF, tyOf, subT, leD, ltD, gtD, geD, cmpD, lenF, lenN, neD, eqD, eqB, ofOpt, MM.keep, Res.bind, Res.toS, ixD, addD, subD, modD, fdivD, intF, List.replicate, setD, negD, mulD, sizeLine, sAsg, asg, asgs, items, sPar, n_add_mix, n_add_scale, n_add_swap, n_add_set, n_add_copy, n_mix_add, n_mix_scale, n_mix_swap, n_mix_set, n_mix_copy, n_scale_add, n_scale_mix, n_scale_swap, n_scale_set, n_scale_copy, n_swap_add, n_swap_mix, n_swap_scale, n_swap_set, n_swap_copy, n_set_add, n_set_mix, n_set_scale, n_set_swap, n_set_copy, n_copy_add, n_copy_mix, n_copy_scale, n_copy_swap, n_copy_set, i_add_addset, i_mix_addset, i_scale_addset, i_swap_addset, i_set_addset, i_copy_addset, i_add_setcopy, i_mix_setcopy, i_scale_setcopy, i_swap_setcopy, i_set_setcopy, i_copy_setcopy, i_add_mixcopy, i_mix_mixcopy, i_scale_mixcopy, i_swap_mixcopy, i_set_mixcopy, i_copy_mixcopy, MH.seq, listF, tupleF, allF, MF.bools_map, ixD2, dgetD, dkey, eDct, ePs, putDct, keysD, mergeD, putD, valD, gn1, gn0, gn00, gs10, gs01, aI0, aI1, aI2, aI3]⟩
    (fun k acc h' hk ⟨q1, q2, q3, os, q4, q5, q6⟩ => by
      have hk' : k < ns.length := hk
      refine ⟨.int ns[k], env.set s (some (.int ns[k])), by simp only [MI.at, sq2 h' q1]; simp [runD, sSeq, sRet, sIf, sSet, sEx, sSub, sNil, eVar, eC, eOp, eChain, tTruth, tBl, tNotM, tAndM, tOrM, eAndM, eOrM, eNotM, eIfM, aNil, aCons, eTup, eLst, mkLst, mkTup, eCB, eF, eSl, oPart, oNone, eUn, isB, truD, isiF, tyOf, subT, leD, ltD, gtD, geD, cmpD, lenF, lenN, neD, eqD, eqB, ofOpt, MM.keep, Res.bind, Res.toS, ixD, addD, subD, modD, fdivD, intF, List.replicate, setD, negD, mulD, sizeLine, sAsg, asg, asgs, items, sPar, n_add_mix, n_add_scale, n_add_swap, n_add_set, n_add_copy, n_mix_add, n_mix_scale, n_mix_swap, n_mix_set, n_mix_copy, n_scale_add, n_scale_mix, n_scale_swap, n_scale_set, n_scale_copy, n_swap_add, n_swap_mix, n_swap_scale, n_swap_set, n_swap_copy, n_set_add, n_set_mix, n_set_scale, n_set_swap, n_set_copy, n_copy_add, n_copy_mix, n_copy_scale, n_copy_swap, n_copy_set, i_add_addset, i_mix_addset, i_scale_addset, i_swap_addset, i_set_addset, i_copy_addset, i_add_setcopy, i_mix_setcopy, i_scale_setcopy, i_swap_setcopy, i_set_setcopy, i_copy_setcopy, i_add_mixcopy, i_mix_mixcopy, i_scale_mixcopy, i_swap_mixcopy, i_set_mixcopy, i_copy_mixcopy, MH.seq, listF, tupleF, allF, MF.bools_map, ixD2, dgetD, dkey, eDct, ePs, putDct, keysD, mergeD, putD, valD, gn1, gn0, gn00, gs10, gs01, aI0, aI1, aI2, aI3, hk'], rfl, ?_⟩
      have mem : ns[k] ∈ ns := List.getElem_mem _
      cases hp : p ns[k] with
      | false => exact .inl ⟨h', by rw [htt _ h' mem q1, hp], q1, q2, q3, os, q4, by omega, q6⟩
      | true =>
        refine .inr ⟨h', .int ns[k], h', by rw [htt _ h' mem q1, hp], by simp [runD, sSeq, sRet, sIf, sSet, sEx, sSub, sNil, eVar, eC, eOp, eChain, tTruth, tBl, tNotM, tAndM, tOrM, eAndM, eOrM, eNotM, eIfM, aNil, aCons, eTup, eLst, mkLst, mkTup, eCB, eF, eSl, oPart, oNone, eUn, isB, truD, isiF, tyOf, subT, leD, ltD, gtD, geD, cmpD, lenF, lenN, neD, eqD, eqB, ofOpt, MM.keep, Res.bind, Res.toS, ixD, addD, subD, modD, fdivD, intF, List.replicate, setD, negD, mulD, sizeLine, sAsg, asg, asgs, items, sPar, n_add_mix, n_add_scale, n_add_swap, n_add_set, n_add_copy, n_mix_add, n_mix_scale, n_mix_swap, n_mix_set, n_mix_copy, n_scale_add, n_scale_mix, n_scale_swap, n_scale_set, n_scale_copy, n_swap_add, n_swap_mix, n_swap_scale, n_swap_set, n_swap_copy, n_set_add, n_set_mix, n_set_scale, n_set_swap, n_set_copy, n_copy_add, n_copy_mix, n_copy_scale, n_copy_swap, n_copy_set, i_add_addset, i_mix_addset, i_scale_addset, i_swap_addset, i_set_addset, i_copy_addset, i_add_setcopy, i_mix_setcopy, i_scale_setcopy, i_swap_setcopy, i_set_setcopy, i_copy_setcopy, i_add_mixcopy, i_mix_mixcopy, i_scale_mixcopy, i_swap_mixcopy, i_set_mixcopy, i_copy_mixcopy, MH.seq, listF, tupleF, allF, MF.bools_map, ixD2, dgetD, dkey, eDct, ePs, putDct, keysD, mergeD, putD, valD, gn1, gn0, gn00, gs10, gs01, aI0, aI1, aI2, aI3, hs], q3, ?_, ?_⟩
        · have : acc.length ≤ k := by rw [q4]; simpa [runD, sSeq, sRet, sIf, sSet, sEx, sSub, sNil, eVar, eC, eOp, eChain, tTruth, tBl, tNotM, tAndM, tOrM, eAndM, eOrM, eNotM, eIfM, aNil, aCons, eTup, eLst, mkLst, mkTup, eCB, eF, eSl, oPart, oNone, eUn, isB, truD, isiF, tyOf, subT, leD, ltD, gtD, geD, cmpD, lenF, lenN, neD, eqD, eqB, ofOpt, MM.keep, Res.bind, Res.toS, ixD, addD, subD, modD, fdivD, intF, List.replicate, setD, negD, mulD, sizeLine, sAsg, asg, asgs, items, sPar, n_add_mix, n_add_scale, n_add_swap, n_add_set, n_add_copy, n_mix_add, n_mix_scale, n_mix_swap, n_mix_set, n_mix_copy, n_scale_add, n_scale_mix, n_scale_swap, n_scale_set, n_scale_copy, n_swap_add, n_swap_mix, n_swap_scale, n_swap_set, n_swap_copy, n_set_add, n_set_mix, n_set_scale, n_set_swap, n_set_copy, n_copy_add, n_copy_mix, n_copy_scale, n_copy_swap, n_copy_set, i_add_addset, i_mix_addset, i_scale_addset, i_swap_addset, i_set_addset, i_copy_addset, i_add_setcopy, i_mix_setcopy, i_scale_setcopy, i_swap_setcopy, i_set_setcopy, i_copy_setcopy, i_add_mixcopy, i_mix_mixcopy, i_scale_mixcopy, i_swap_mixcopy, i_set_mixcopy, i_copy_mixcopy, MH.seq, listF, tupleF, allF, MF.bools_map, ixD2, dgetD, dkey, eDct, ePs, putDct, keysD, mergeD, putD, valD, gn1, gn0, gn00, gs10, gs01, aI0, aI1, aI2, aI3] using q5
          simp [runD, sSeq, sRet, sIf, sSet, sEx, sSub, sNil, eVar, eC, eOp, eChain, tTruth, tBl, tNotM, tAndM, tOrM, eAndM, eOrM, eNotM, eIfM, aNil, aCons, eTup, eLst, mkLst, mkTup, eCB, eF, eSl, oPart, oNone, eUn, isB, truD, isiF, tyOf, subT, leD, ltD, gtD, geD, cmpD, lenF, lenN, neD, eqD, eqB, ofOpt, MM.keep, Res.bind, Res.toS, ixD, addD, subD, modD, fdivD, intF, List.replicate, setD, negD, mulD, sizeLine, sAsg, asg, asgs, items, sPar, n_add_mix, n_add_scale, n_add_swap, n_add_set, n_add_copy, n_mix_add, n_mix_scale, n_mix_swap, n_mix_set, n_mix_copy, n_scale_add, n_scale_mix, n_scale_swap, n_scale_set, n_scale_copy, n_swap_add, n_swap_mix, n_swap_scale, n_swap_set, n_swap_copy, n_set_add, n_set_mix, n_set_scale, n_set_swap, n_set_copy, n_copy_add, n_copy_mix, n_copy_scale, n_copy_swap, n_copy_set, i_add_addset, i_mix_addset, i_scale_addset, i_swap_addset, i_set_addset, i_copy_addset, i_add_setcopy, i_mix_setcopy, i_scale_setcopy, i_swap_setcopy, i_set_setcopy, i_copy_setcopy, i_add_mixcopy, i_mix_mixcopy, i_scale_mixcopy, i_swap_mixcopy, i_set_mixcopy, i_copy_mixcopy, MH.seq, listF, tupleF, allF, MF.bools_map, ixD2, dgetD, dkey, eDct, ePs, putDct, keysD, mergeD, putD, valD, gn1, gn0, gn00, gs10, gs01, aI0, aI1, aI2, aI3]
          omega
        · refine ⟨⟨by simpa [runD, sSeq, sRet, sIf, sSet, sEx, sSub, sNil, eVar, eC, eOp, eChain, tTruth, tBl, tNotM, tAndM, tOrM, eAndM, eOrM, eNotM, eIfM, aNil, aCons, eTup, eLst, mkLst, mkTup, eCB, eF, eSl, oPart, oNone, eUn, isB, truD, isiF, tyOf, subT, leD, ltD, gtD, geD, cmpD, lenF, lenN, neD, eqD, eqB, ofOpt, MM.keep, Res.bind, Res.toS, ixD, addD, subD, modD, fdivD, intF, List.replicate, setD, negD, mulD, sizeLine, sAsg, asg, asgs, items, sPar, n_add_mix, n_add_scale, n_add_swap, n_add_set, n_add_copy, n_mix_add, n_mix_scale, n_mix_swap, n_mix_set, n_mix_copy, n_scale_add, n_scale_mix, n_scale_swap, n_scale_set, n_scale_copy, n_swap_add, n_swap_mix, n_swap_scale, n_swap_set, n_swap_copy, n_set_add, n_set_mix, n_set_scale, n_set_swap, n_set_copy, n_copy_add, n_copy_mix, n_copy_scale, n_copy_swap, n_copy_set, i_add_addset, i_mix_addset, i_scale_addset, i_swap_addset, i_set_addset, i_copy_addset, i_add_setcopy, i_mix_setcopy, i_scale_setcopy, i_swap_setcopy, i_set_setcopy, i_copy_setcopy, i_add_mixcopy, i_mix_mixcopy, i_scale_mixcopy, i_swap_mixcopy, i_set_mixcopy, i_copy_mixcopy, MH.seq, listF, tupleF, allF, MF.bools_map, ixD2, dgetD, dkey, eDct, ePs, putDct, keysD, mergeD, putD, valD, gn1, gn0, gn00, gs10, gs01, aI0, aI1, aI2, aI3] using q1.le, fun j l => by rw [MH.get_set_ne _ _ (by omega)]; exact q1.ot j l⟩, by simpa [runD, sSeq, sRet, sIf, sSet, sEx, sSub, sNil, eVar, eC, eOp, eChain, tTruth, tBl, tNotM, tAndM, tOrM, eAndM, eOrM, eNotM, eIfM, aNil, aCons, eTup, eLst, mkLst, mkTup, eCB, eF, eSl, oPart, oNone, eUn, isB, truD, isiF, tyOf, subT, leD, ltD, gtD, geD, cmpD, lenF, lenN, neD, eqD, eqB, ofOpt, MM.keep, Res.bind, Res.toS, ixD, addD, subD, modD, fdivD, intF, List.replicate, setD, negD, mulD, sizeLine, sAsg, asg, asgs, items, sPar, n_add_mix, n_add_scale, n_add_swap, n_add_set, n_add_copy, n_mix_add, n_mix_scale, n_mix_swap, n_mix_set, n_mix_copy, n_scale_add, n_scale_mix, n_scale_swap, n_scale_set, n_scale_copy, n_swap_add, n_swap_mix, n_swap_scale, n_swap_set, n_swap_copy, n_set_add, n_set_mix, n_set_scale, n_set_swap, n_set_copy, n_copy_add, n_copy_mix, n_copy_scale, n_copy_swap, n_copy_set, i_add_addset, i_mix_addset, i_scale_addset, i_swap_addset, i_set_addset, i_copy_addset, i_add_setcopy, i_mix_setcopy, i_scale_setcopy, i_swap_setcopy, i_set_setcopy, i_copy_setcopy, i_add_mixcopy, i_mix_mixcopy, i_scale_mixcopy, i_swap_mixcopy, i_set_mixcopy, i_copy_mixcopy, MH.seq, listF, tupleF, allF, MF.bools_map, ixD2, dgetD, dkey, eDct, ePs, putDct, keysD, mergeD, putD, valD, gn1, gn0, gn00, gs10, gs01, aI0, aI1, aI2, aI3] using q2, MH.get_set_same _ _ _, os ++ [ns[k]], by simp [runD, sSeq, sRet, sIf, sSet, sEx, sSub, sNil, eVar, eC, eOp, eChain, tTruth, tBl, tNotM, tAndM, tOrM, eAndM, eOrM, eNotM, eIfM, aNil, aCons, eTup, eLst, mkLst, mkTup, eCB, eF, eSl, oPart, oNone, eUn, isB, truD, isiF, tyOf, subT, leD, ltD, gtD, geD, cmpD, lenF, lenN, neD, eqD, eqB, ofOpt, MM.keep, Res.bind, Res.toS, ixD, addD, subD, modD, fdivD, intF, List.replicate, setD, negD, mulD, sizeLine, sAsg, asg, asgs, items, sPar, n_add_mix, n_add_scale, n_add_swap, n_add_set, n_add_copy, n_mix_add, n_mix_scale, n_mix_swap, n_mix_set, n_mix_copy, n_scale_add, n_scale_mix, n_scale_swap, n_scale_set, n_scale_copy, n_swap_add, n_swap_mix, n_swap_scale, n_swap_set, n_swap_copy, n_set_add, n_set_mix, n_set_scale, n_set_swap, n_set_copy, n_copy_add, n_copy_mix, n_copy_scale, n_copy_swap, n_copy_set, i_add_addset, i_mix_addset, i_scale_addset, i_swap_addset, i_set_addset, i_copy_addset, i_add_setcopy, i_mix_setcopy, i_scale_setcopy, i_swap_setcopy, i_set_setcopy, i_copy_setcopy, i_add_mixcopy, i_mix_mixcopy, i_scale_mixcopy, i_swap_mixcopy, i_set_mixcopy, i_copy_mixcopy, MH.seq, listF, tupleF, allF, MF.bools_map, ixD2, dgetD, dkey, eDct, ePs, putDct, keysD, mergeD, putD, valD, gn1, gn0, gn00, gs10, gs01, aI0, aI1, aI2, aI3, q4], by simp [runD, sSeq, sRet, sIf, sSet, sEx, sSub, sNil, eVar, eC, eOp, eChain, tTruth, tBl, tNotM, tAndM, tOrM, eAndM, eOrM, eNotM, eIfM, aNil, aCons, eTup, eLst, mkLst, mkTup, eCB, eF, eSl, oPart, oNone, eUn, isB, truD, isiF, tyOf, subT, leD, ltD, gtD, geD, cmpD, lenF, lenN, neD, eqD, eqB, ofOpt, MM.keep, Res.bind, Res.toS, ixD, addD, subD, modD, fdivD, intF, List.replicate, setD, negD, mulD, sizeLine, sAsg, asg, asgs, items, sPar, n_add_mix, n_add_scale, n_add_swap, n_add_set, n_add_copy, n_mix_add, n_mix_scale, n_mix_swap, n_mix_set, n_mix_copy, n_scale_add, n_scale_mix, n_scale_swap, n_scale_set, n_scale_copy, n_swap_add, n_swap_mix, n_swap_scale, n_swap_set, n_swap_copy, n_set_add, n_set_mix, n_set_scale, n_set_swap, n_set_copy, n_copy_add, n_copy_mix, n_copy_scale, n_copy_swap, n_copy_set, i_add_addset, i_mix_addset, i_scale_addset, i_swap_addset, i_set_addset, i_copy_addset, i_add_setcopy, i_mix_setcopy, i_scale_setcopy, i_swap_setcopy, i_set_setcopy, i_copy_setcopy, i_add_mixcopy, i_mix_mixcopy, i_scale_mixcopy, i_swap_mixcopy, i_set_mixcopy, i_copy_mixcopy, MH.seq, listF, tupleF, allF, MF.bools_map, ixD2, dgetD, dkey, eDct, ePs, putDct, keysD, mergeD, putD, valD, gn1, gn0, gn00, gs10, gs01, aI0, aI1, aI2, aI3]; omega, fun o ho => ?_⟩
          rcases List.mem_append.mp ho with z | z
          · exact q6 o z
          · rw [List.mem_singleton.mp z]; exact ⟨mem, hp⟩)
    (fun acc h' ⟨q1, _⟩ => by simp only [MI.fin, sq h' q1]; rfl)
  exact ⟨os, h', e, q1, q2, by rw [q3, q4], q5, q6⟩
end K03

set_option Elab.async false
set_option linter.all false
set_option maxRecDepth 100000
set_option maxHeartbeats 4000000
set_option autoImplicit false
namespace K03
open PySem PySem.Spec PyProof.Rows L2 MM
structure Sh (bs : List Int) : Prop where
  le : bs.length ≤ 6
  ge : 0 < bs.length
  base : ∀ k (h : k < bs.length), 2 ≤ bs[k] ∧ bs[k] ≤ 5
theorem Sh.at {bs : List Int} (s : Sh bs) {k : Nat} (h : k < bs.length) : 2 ≤ at_ bs k ∧ at_ bs k ≤ 5 := by
  have := s.base k h
  simp [runD, sSeq, sRet, sIf, sSet, sEx, sSub, sNil, eVar, eC, eOp, eChain, tTruth, tBl, tNotM, tAndM, tOrM, eAndM, eOrM, eNotM, eIfM, aNil, aCons, eTup, eLst, mkLst, mkTup, eCB, eF, eSl, oPart, oNone, eUn, isB, truD, isiF, tyOf, subT, leD, ltD, gtD, geD, cmpD, lenF, lenN, neD, eqD, eqB, ofOpt, MM.keep, Res.bind, Res.toS, ixD, addD, subD, modD, fdivD, intF, List.replicate, setD, negD, mulD, sizeLine, sAsg, asg, asgs, items, sPar, n_add_mix, n_add_scale, n_add_swap, n_add_set, n_add_copy, n_mix_add, n_mix_scale, n_mix_swap, n_mix_set, n_mix_copy, n_scale_add, n_scale_mix, n_scale_swap, n_scale_set, n_scale_copy, n_swap_add, n_swap_mix, n_swap_scale, n_swap_set, n_swap_copy, n_set_add, n_set_mix, n_set_scale, n_set_swap, n_set_copy, n_copy_add, n_copy_mix, n_copy_scale, n_copy_swap, n_copy_set, i_add_addset, i_mix_addset, i_scale_addset, i_swap_addset, i_set_addset, i_copy_addset, i_add_setcopy, i_mix_setcopy, i_scale_setcopy, i_swap_setcopy, i_set_setcopy, i_copy_setcopy, i_add_mixcopy, i_mix_mixcopy, i_scale_mixcopy, i_swap_mixcopy, i_set_mixcopy, i_copy_mixcopy, MH.seq, listF, tupleF, allF, MF.bools_map, ixD2, dgetD, dkey, eDct, ePs, putDct, keysD, mergeD, putD, valD, gn1, gn0, gn00, gs10, gs01, aI0, aI1, aI2, aI3, at_, h]
  omega
theorem rngLen {env : ME} {bs : List D} (he : env[1]? = some (some (.tup bs))) (hl : bs.length ≤ 64) (h : MH) : iRng1M (aCons (eCB lenF (aCons (eVar 1) aNil)) aNil) env h = .ok (.rng 0 bs.length) h := by
  have bd : -(2 ^ 62) ≤ (bs.length : Int) ∧ (bs.length : Int) < 2 ^ 62 := by omega
  simp only [iRng1M, aCons, aNil, eCB, eVar, he, Res.bind, lenF, lenN, Option.map_some, ofOpt]
  rw [if_pos bd]
  rfl
/-- the others -/
theorem others {i index : Nat} {bs : List Int} (s : Sh bs) (w : D) (h : MH) : ∃ (os : List Int) (h1 : MH),
    eLc (iRng1M (aCons (eCB lenF (aCons (eVar 1) aNil)) aNil)) (.nm 8) (tBl (eOp neD (eVar 8) (eVar 3))) (eVar 8) [8] [some (.ref i), some (.tup (bs.map .int)), some w, some (.int index), none, none, none, none, none] h = .ok (.ref h.n) h1 ∧
      Ext h h1 ∧ h1.n = h.n + 1 ∧ h1.get h.n = some (.lst (os.map .int)) ∧ os.length ≤ 6 ∧ ∀ o ∈ os, 0 ≤ o ∧ o < bs.length := by
  have le := s.le
  obtain ⟨os, h1, e, x, n1, g, l, m⟩ := rangeC (n := bs.length) (s := 8) (tt := tBl (eOp neD (eVar 8) (eVar 3))) (env := [some (.ref i), some (.tup (bs.map .int)), some w, some (.int index), none, none, none, none, none])
    (by omega) (by simp [runD, sSeq, sRet, sIf, sSet, sEx, sSub, sNil, eVar, eC, eOp, eChain, tTruth, tBl, tNotM, tAndM, tOrM, eAndM, eOrM, eNotM, eIfM, aNil, aCons, eTup, eLst, mkLst, mkTup, eCB, eF, eSl, oPart, oNone, eUn, isB, truD, isiF, tyOf, subT, leD, ltD, gtD, geD, cmpD, lenF, lenN, neD, eqD, eqB, ofOpt, MM.keep, Res.bind, Res.toS, ixD, addD, subD, modD, fdivD, intF, List.replicate, setD, negD, mulD, sizeLine, sAsg, asg, asgs, items, sPar, n_add_mix, n_add_scale, n_add_swap, n_add_set, n_add_copy, n_mix_add, n_mix_scale, n_mix_swap, n_mix_set, n_mix_copy, n_scale_add, n_scale_mix, n_scale_swap, n_scale_set, n_scale_copy, n_swap_add, n_swap_mix, n_swap_scale, n_swap_set, n_swap_copy, n_set_add, n_set_mix, n_set_scale, n_set_swap, n_set_copy, n_copy_add, n_copy_mix, n_copy_scale, n_copy_swap, n_copy_set, i_add_addset, i_mix_addset, i_scale_addset, i_swap_addset, i_set_addset, i_copy_addset, i_add_setcopy, i_mix_setcopy, i_scale_setcopy, i_swap_setcopy, i_set_setcopy, i_copy_setcopy, i_add_mixcopy, i_mix_mixcopy, i_scale_mixcopy, i_swap_mixcopy, i_set_mixcopy, i_copy_mixcopy, MH.seq, listF, tupleF, allF, MF.bools_map, ixD2, dgetD, dkey, eDct, ePs, putDct, keysD, mergeD, putD, valD, gn1, gn0, gn00, gs10, gs01, aI0, aI1, aI2, aI3]) rfl (fun k => !(k == (index : Int))) h (fun k h' hk _ => by simp [runD, sSeq, sRet, sIf, sSet, sEx, sSub, sNil, eVar, eC, eOp, eChain, tTruth, tBl, tNotM, tAndM, tOrM, eAndM, eOrM, eNotM, eIfM, aNil, aCons, eTup, eLst, mkLst, mkTup, eCB, eF, eSl, oPart, oNone, eUn, isB, truD, isiF, tyOf, subT, leD, ltD, gtD, geD, cmpD, lenF, lenN, neD, eqD, eqB, ofOpt, MM.keep, Res.bind, Res.toS, ixD, addD, subD, modD, fdivD, intF, List.replicate, setD, negD, mulD, sizeLine, sAsg, asg, asgs, items, sPar, n_add_mix, n_add_scale, n_add_swap, n_add_set, n_add_copy, n_mix_add, n_mix_scale, n_mix_swap, n_mix_set, n_mix_copy, n_scale_add, n_scale_mix, n_scale_swap, n_scale_set, n_scale_copy, n_swap_add, n_swap_mix, n_swap_scale, n_swap_set, n_swap_copy, n_set_add, n_set_mix, n_set_scale, n_set_swap, n_set_copy, n_copy_add, n_copy_mix, n_copy_scale, n_copy_swap, n_copy_set, i_add_addset, i_mix_addset, i_scale_addset, i_swap_addset, i_set_addset, i_copy_addset, i_add_setcopy, i_mix_setcopy, i_scale_setcopy, i_swap_setcopy, i_set_setcopy, i_copy_setcopy, i_add_mixcopy, i_mix_mixcopy, i_scale_mixcopy, i_swap_mixcopy, i_set_mixcopy, i_copy_mixcopy, MH.seq, listF, tupleF, allF, MF.bools_map, ixD2, dgetD, dkey, eDct, ePs, putDct, keysD, mergeD, putD, valD, gn1, gn0, gn00, gs10, gs01, aI0, aI1, aI2, aI3])
  refine ⟨os, h1, ?_, x, n1, g, by omega, fun o ho => ⟨(m o ho).1, (m o ho).2.1⟩⟩
  have rl := rngLen (env := [some (.ref i), some (.tup (bs.map .int)), some w, some (.int index), none, none, none, none, none]) (bs := bs.map .int) rfl (by simp [runD, sSeq, sRet, sIf, sSet, sEx, sSub, sNil, eVar, eC, eOp, eChain, tTruth, tBl, tNotM, tAndM, tOrM, eAndM, eOrM, eNotM, eIfM, aNil, aCons, eTup, eLst, mkLst, mkTup, eCB, eF, eSl, oPart, oNone, eUn, isB, truD, isiF, tyOf, subT, leD, ltD, gtD, geD, cmpD, lenF, lenN, neD, eqD, eqB, ofOpt, MM.keep, Res.bind, Res.toS, ixD, addD, subD, modD, fdivD, intF, List.replicate, setD, negD, mulD, sizeLine, sAsg, asg, asgs, items, sPar, n_add_mix, n_add_scale, n_add_swap, n_add_set, n_add_copy, n_mix_add, n_mix_scale, n_mix_swap, n_mix_set, n_mix_copy, n_scale_add, n_scale_mix, n_scale_swap, n_scale_set, n_scale_copy, n_swap_add, n_swap_mix, n_swap_scale, n_swap_set, n_swap_copy, n_set_add, n_set_mix, n_set_scale, n_set_swap, n_set_copy, n_copy_add, n_copy_mix, n_copy_scale, n_copy_swap, n_copy_set, i_add_addset, i_mix_addset, i_scale_addset, i_swap_addset, i_set_addset, i_copy_addset, i_add_setcopy, i_mix_setcopy, i_scale_setcopy, i_swap_setcopy, i_set_setcopy, i_copy_setcopy, i_add_mixcopy, i_mix_mixcopy, i_scale_mixcopy, i_swap_mixcopy, i_set_mixcopy, i_copy_mixcopy, MH.seq, listF, tupleF, allF, MF.bools_map, ixD2, dgetD, dkey, eDct, ePs, putDct, keysD, mergeD, putD, valD, gn1, gn0, gn00, gs10, gs01, aI0, aI1, aI2, aI3]; omega) h
  rw [List.length_map] at rl
  have run : ∀ {it : MI}, iRng1M (aCons (eCB lenF (aCons (eVar 1) aNil)) aNil) [some (.ref i), some (.tup (bs.map .int)), some w, some (.int index), none, none, none, none, none] h = .ok it h →
      lcL it (.nm 8) (tBl (eOp neD (eVar 8) (eVar 3))) (eVar 8) [some (.ref i), some (.tup (bs.map .int)), some w, some (.int index), none, none, none, none, none] h.n it.n 0 (h.add (.lst [])) = some h1 →
      eLc (iRng1M (aCons (eCB lenF (aCons (eVar 1) aNil)) aNil)) (.nm 8) (tBl (eOp neD (eVar 8) (eVar 3))) (eVar 8) [8] [some (.ref i), some (.tup (bs.map .int)), some w, some (.int index), none, none, none, none, none] h = .ok (.ref h.n) h1 := fun {it} q1 q2 => by
    unfold eLc
    rw [q1]
    have we : wipeE [some (D.ref i), some (D.tup (bs.map .int)), some w, some (D.int index), none, none, none, none, none] [8] = [some (D.ref i), some (D.tup (bs.map .int)), some w, some (D.int index), none, none, none, none, none] := rfl
    simp only [Res.bind, we, q2]
  exact run rl e
theorem two {m m2 : Mx} {a b : D} {env : ME} {h h1 : MH} (q1 : m env h = .ok a h) (q2 : m2 env h = .ok b h1) : eTup (aCons m (aCons m2 aNil)) env h = .ok (.tup [a, b]) h1 := by
  simp [runD, sSeq, sRet, sIf, sSet, sEx, sSub, sNil, eVar, eC, eOp, eChain, tTruth, tBl, tNotM, tAndM, tOrM, eAndM, eOrM, eNotM, eIfM, aNil, aCons, eTup, eLst, mkLst, mkTup, eCB, eF, eSl, oPart, oNone, eUn, isB, truD, isiF, tyOf, subT, leD, ltD, gtD, geD, cmpD, lenF, lenN, neD, eqD, eqB, ofOpt, MM.keep, Res.bind, Res.toS, ixD, addD, subD, modD, fdivD, intF, List.replicate, setD, negD, mulD, sizeLine, sAsg, asg, asgs, items, sPar, n_add_mix, n_add_scale, n_add_swap, n_add_set, n_add_copy, n_mix_add, n_mix_scale, n_mix_swap, n_mix_set, n_mix_copy, n_scale_add, n_scale_mix, n_scale_swap, n_scale_set, n_scale_copy, n_swap_add, n_swap_mix, n_swap_scale, n_swap_set, n_swap_copy, n_set_add, n_set_mix, n_set_scale, n_set_swap, n_set_copy, n_copy_add, n_copy_mix, n_copy_scale, n_copy_swap, n_copy_set, i_add_addset, i_mix_addset, i_scale_addset, i_swap_addset, i_set_addset, i_copy_addset, i_add_setcopy, i_mix_setcopy, i_scale_setcopy, i_swap_setcopy, i_set_setcopy, i_copy_setcopy, i_add_mixcopy, i_mix_mixcopy, i_scale_mixcopy, i_swap_mixcopy, i_set_mixcopy, i_copy_mixcopy, MH.seq, listF, tupleF, allF, MF.bools_map, ixD2, dgetD, dkey, eDct, ePs, putDct, keysD, mergeD, putD, valD, gn1, gn0, gn00, gs10, gs01, aI0, aI1, aI2, aI3, q1, q2]
theorem asgTwo {m : Mx} {a b : D} {x0 x1 x2 x3 : Option D} {h h1 : MH} (q : m [x0, x1, x2, x3, none, none, none, none, none] h = .ok (.tup [a, b]) h1) : sAsg (.tp [(.nm 4), (.nm 5)]) m [x0, x1, x2, x3, none, none, none, none, none] h = .nx [x0, x1, x2, x3, some a, some b, none, none, none] h1 := by
  simp [runD, sSeq, sRet, sIf, sSet, sEx, sSub, sNil, eVar, eC, eOp, eChain, tTruth, tBl, tNotM, tAndM, tOrM, eAndM, eOrM, eNotM, eIfM, aNil, aCons, eTup, eLst, mkLst, mkTup, eCB, eF, eSl, oPart, oNone, eUn, isB, truD, isiF, tyOf, subT, leD, ltD, gtD, geD, cmpD, lenF, lenN, neD, eqD, eqB, ofOpt, MM.keep, Res.bind, Res.toS, ixD, addD, subD, modD, fdivD, intF, List.replicate, setD, negD, mulD, sizeLine, sAsg, asg, asgs, items, sPar, n_add_mix, n_add_scale, n_add_swap, n_add_set, n_add_copy, n_mix_add, n_mix_scale, n_mix_swap, n_mix_set, n_mix_copy, n_scale_add, n_scale_mix, n_scale_swap, n_scale_set, n_scale_copy, n_swap_add, n_swap_mix, n_swap_scale, n_swap_set, n_swap_copy, n_set_add, n_set_mix, n_set_scale, n_set_swap, n_set_copy, n_copy_add, n_copy_mix, n_copy_scale, n_copy_swap, n_copy_set, i_add_addset, i_mix_addset, i_scale_addset, i_swap_addset, i_set_addset, i_copy_addset, i_add_setcopy, i_mix_setcopy, i_scale_setcopy, i_swap_setcopy, i_set_setcopy, i_copy_setcopy, i_add_mixcopy, i_mix_mixcopy, i_scale_mixcopy, i_swap_mixcopy, i_set_mixcopy, i_copy_mixcopy, MH.seq, listF, tupleF, allF, MF.bools_map, ixD2, dgetD, dkey, eDct, ePs, putDct, keysD, mergeD, putD, valD, gn1, gn0, gn00, gs10, gs01, aI0, aI1, aI2, aI3, q]
theorem ixEnv {a b : D} {env : ME} {h : MH} {xs : List D} {k : Int} {d : D} (e1 : env[1]? = some (some (.tup xs))) (e3 : env[3]? = some (some (.int k))) (x : L2.atI xs k = some d) : eOp ixD (eVar 1) (eVar 3) env h = .ok d h := by
  simp [runD, sSeq, sRet, sIf, sSet, sEx, sSub, sNil, eVar, eC, eOp, eChain, tTruth, tBl, tNotM, tAndM, tOrM, eAndM, eOrM, eNotM, eIfM, aNil, aCons, eTup, eLst, mkLst, mkTup, eCB, eF, eSl, oPart, oNone, eUn, isB, truD, isiF, tyOf, subT, leD, ltD, gtD, geD, cmpD, lenF, lenN, neD, eqD, eqB, ofOpt, MM.keep, Res.bind, Res.toS, ixD, addD, subD, modD, fdivD, intF, List.replicate, setD, negD, mulD, sizeLine, sAsg, asg, asgs, items, sPar, n_add_mix, n_add_scale, n_add_swap, n_add_set, n_add_copy, n_mix_add, n_mix_scale, n_mix_swap, n_mix_set, n_mix_copy, n_scale_add, n_scale_mix, n_scale_swap, n_scale_set, n_scale_copy, n_swap_add, n_swap_mix, n_swap_scale, n_swap_set, n_swap_copy, n_set_add, n_set_mix, n_set_scale, n_set_swap, n_set_copy, n_copy_add, n_copy_mix, n_copy_scale, n_copy_swap, n_copy_set, i_add_addset, i_mix_addset, i_scale_addset, i_swap_addset, i_set_addset, i_copy_addset, i_add_setcopy, i_mix_setcopy, i_scale_setcopy, i_swap_setcopy, i_set_setcopy, i_copy_setcopy, i_add_mixcopy, i_mix_mixcopy, i_scale_mixcopy, i_swap_mixcopy, i_set_mixcopy, i_copy_mixcopy, MH.seq, listF, tupleF, allF, MF.bools_map, ixD2, dgetD, dkey, eDct, ePs, putDct, keysD, mergeD, putD, valD, gn1, gn0, gn00, gs10, gs01, aI0, aI1, aI2, aI3, e1, e3, x]
def dU : Mx := eDct [((eC (.int (3))), (eLst (aCons (eC (.int (1))) (aCons (eC (.int (2))) aNil)))), ((eC (.int (4))), (eLst (aCons (eC (.int (1))) (aCons (eC (.int (3))) aNil)))), ((eC (.int (5))), (eLst (aCons (eC (.int (2))) (aCons (eC (.int (3))) (aCons (eC (.int (4))) aNil)))))]
def hU (h : MH) : MH := ((((h.add (.dct [])).add (.lst [.int 1, .int 2])).add (.lst [.int 1, .int 3])).add (.lst [.int 2, .int 3, .int 4])).set h.n (.dct [(.inl 3, .ref (h.n + 1)), (.inl 4, .ref (h.n + 2)), (.inl 5, .ref (h.n + 3))])
theorem dU_ok (env : ME) (h : MH) : dU env h = .ok (.ref h.n) (hU h) := by
  have g : ((((h.add (.dct [])).add (.lst [.int 1, .int 2])).add (.lst [.int 1, .int 3])).add (.lst [.int 2, .int 3, .int 4])).get h.n = some (.dct []) := by
    rw [MH.get_add_ne _ _ (by simp [runD, sSeq, sRet, sIf, sSet, sEx, sSub, sNil, eVar, eC, eOp, eChain, tTruth, tBl, tNotM, tAndM, tOrM, eAndM, eOrM, eNotM, eIfM, aNil, aCons, eTup, eLst, mkLst, mkTup, eCB, eF, eSl, oPart, oNone, eUn, isB, truD, isiF, tyOf, subT, leD, ltD, gtD, geD, cmpD, lenF, lenN, neD, eqD, eqB, ofOpt, MM.keep, Res.bind, Res.toS, ixD, addD, subD, modD, fdivD, intF, List.replicate, setD, negD, mulD, sizeLine, sAsg, asg, asgs, items, sPar, n_add_mix, n_add_scale, n_add_swap, n_add_set, n_add_copy, n_mix_add, n_mix_scale, n_mix_swap, n_mix_set, n_mix_copy, n_scale_add, n_scale_mix, n_scale_swap, n_scale_set, n_scale_copy, n_swap_add, n_swap_mix, n_swap_scale, n_swap_set, n_swap_copy, n_set_add, n_set_mix, n_set_scale, n_set_swap, n_set_copy, n_copy_add, n_copy_mix, n_copy_scale, n_copy_swap, n_copy_set, i_add_addset, i_mix_addset, i_scale_addset, i_swap_addset, i_set_addset, i_copy_addset, i_add_setcopy, i_mix_setcopy, i_scale_setcopy, i_swap_setcopy, i_set_setcopy, i_copy_setcopy, i_add_mixcopy, i_mix_mixcopy, i_scale_mixcopy, i_swap_mixcopy, i_set_mixcopy, i_copy_mixcopy, MH.seq, listF, tupleF, allF, MF.bools_map, ixD2, dgetD, dkey, eDct, ePs, putDct, keysD, mergeD, putD, valD, gn1, gn0, gn00, gs10, gs01, aI0, aI1, aI2, aI3] <;> omega), MH.get_add_ne _ _ (by simp [runD, sSeq, sRet, sIf, sSet, sEx, sSub, sNil, eVar, eC, eOp, eChain, tTruth, tBl, tNotM, tAndM, tOrM, eAndM, eOrM, eNotM, eIfM, aNil, aCons, eTup, eLst, mkLst, mkTup, eCB, eF, eSl, oPart, oNone, eUn, isB, truD, isiF, tyOf, subT, leD, ltD, gtD, geD, cmpD, lenF, lenN, neD, eqD, eqB, ofOpt, MM.keep, Res.bind, Res.toS, ixD, addD, subD, modD, fdivD, intF, List.replicate, setD, negD, mulD, sizeLine, sAsg, asg, asgs, items, sPar, n_add_mix, n_add_scale, n_add_swap, n_add_set, n_add_copy, n_mix_add, n_mix_scale, n_mix_swap, n_mix_set, n_mix_copy, n_scale_add, n_scale_mix, n_scale_swap, n_scale_set, n_scale_copy, n_swap_add, n_swap_mix, n_swap_scale, n_swap_set, n_swap_copy, n_set_add, n_set_mix, n_set_scale, n_set_swap, n_set_copy, n_copy_add, n_copy_mix, n_copy_scale, n_copy_swap, n_copy_set, i_add_addset, i_mix_addset, i_scale_addset, i_swap_addset, i_set_addset, i_copy_addset, i_add_setcopy, i_mix_setcopy, i_scale_setcopy, i_swap_setcopy, i_set_setcopy, i_copy_setcopy, i_add_mixcopy, i_mix_mixcopy, i_scale_mixcopy, i_swap_mixcopy, i_set_mixcopy, i_copy_mixcopy, MH.seq, listF, tupleF, allF, MF.bools_map, ixD2, dgetD, dkey, eDct, ePs, putDct, keysD, mergeD, putD, valD, gn1, gn0, gn00, gs10, gs01, aI0, aI1, aI2, aI3] <;> omega), MH.get_add_ne _ _ (by simp [runD, sSeq, sRet, sIf, sSet, sEx, sSub, sNil, eVar, eC, eOp, eChain, tTruth, tBl, tNotM, tAndM, tOrM, eAndM, eOrM, eNotM, eIfM, aNil, aCons, eTup, eLst, mkLst, mkTup, eCB, eF, eSl, oPart, oNone, eUn, isB, truD, isiF, tyOf, subT, leD, ltD, gtD, geD, cmpD, lenF, lenN, neD, eqD, eqB, ofOpt, MM.keep, Res.bind, Res.toS, ixD, addD, subD, modD, fdivD, intF, List.replicate, setD, negD, mulD, sizeLine, sAsg, asg, asgs, items, sPar, n_add_mix, n_add_scale, n_add_swap, n_add_set, n_add_copy, n_mix_add, n_mix_scale, n_mix_swap, n_mix_set, n_mix_copy, n_scale_add, n_scale_mix, n_scale_swap, n_scale_set, n_scale_copy, n_swap_add, n_swap_mix, n_swap_scale, n_swap_set, n_swap_copy, n_set_add, n_set_mix, n_set_scale, n_set_swap, n_set_copy, n_copy_add, n_copy_mix, n_copy_scale, n_copy_swap, n_copy_set, i_add_addset, i_mix_addset, i_scale_addset, i_swap_addset, i_set_addset, i_copy_addset, i_add_setcopy, i_mix_setcopy, i_scale_setcopy, i_swap_setcopy, i_set_setcopy, i_copy_setcopy, i_add_mixcopy, i_mix_mixcopy, i_scale_mixcopy, i_swap_mixcopy, i_set_mixcopy, i_copy_mixcopy, MH.seq, listF, tupleF, allF, MF.bools_map, ixD2, dgetD, dkey, eDct, ePs, putDct, keysD, mergeD, putD, valD, gn1, gn0, gn00, gs10, gs01, aI0, aI1, aI2, aI3] <;> omega)]
    exact MH.get_add_same _ _
  unfold dU hU
  simp [runD, sSeq, sRet, sIf, sSet, sEx, sSub, sNil, eVar, eC, eOp, eChain, tTruth, tBl, tNotM, tAndM, tOrM, eAndM, eOrM, eNotM, eIfM, aNil, aCons, eTup, eLst, mkLst, mkTup, eCB, eF, eSl, oPart, oNone, eUn, isB, truD, isiF, tyOf, subT, leD, ltD, gtD, geD, cmpD, lenF, lenN, neD, eqD, eqB, ofOpt, MM.keep, Res.bind, Res.toS, ixD, addD, subD, modD, fdivD, intF, List.replicate, setD, negD, mulD, sizeLine, sAsg, asg, asgs, items, sPar, n_add_mix, n_add_scale, n_add_swap, n_add_set, n_add_copy, n_mix_add, n_mix_scale, n_mix_swap, n_mix_set, n_mix_copy, n_scale_add, n_scale_mix, n_scale_swap, n_scale_set, n_scale_copy, n_swap_add, n_swap_mix, n_swap_scale, n_swap_set, n_swap_copy, n_set_add, n_set_mix, n_set_scale, n_set_swap, n_set_copy, n_copy_add, n_copy_mix, n_copy_scale, n_copy_swap, n_copy_set, i_add_addset, i_mix_addset, i_scale_addset, i_swap_addset, i_set_addset, i_copy_addset, i_add_setcopy, i_mix_setcopy, i_scale_setcopy, i_swap_setcopy, i_set_setcopy, i_copy_setcopy, i_add_mixcopy, i_mix_mixcopy, i_scale_mixcopy, i_swap_mixcopy, i_set_mixcopy, i_copy_mixcopy, MH.seq, listF, tupleF, allF, MF.bools_map, ixD2, dgetD, dkey, eDct, ePs, putDct, keysD, mergeD, putD, valD, gn1, gn0, gn00, gs10, gs01, aI0, aI1, aI2, aI3, g]
theorem hU_n (h : MH) : (hU h).n = h.n + 4 := rfl
theorem hU_fd {i : Nat} {h0 h : MH} (f : Fd i h0 h) : Fd i h0 (hU h) := ((((f.add _).add _).add _).add _).setO (by have := f.lt; omega) f.le _
theorem hU_0 (h : MH) : (hU h).get h.n = some (.dct [(.inl 3, .ref (h.n + 1)), (.inl 4, .ref (h.n + 2)), (.inl 5, .ref (h.n + 3))]) := MH.get_set_same _ _ _
theorem hU_1 (h : MH) : (hU h).get (h.n + 1) = some (.lst [.int 1, .int 2]) := by
  unfold hU
  rw [MH.get_set_ne _ _ (by omega), MH.get_add_ne _ _ (by simp [runD, sSeq, sRet, sIf, sSet, sEx, sSub, sNil, eVar, eC, eOp, eChain, tTruth, tBl, tNotM, tAndM, tOrM, eAndM, eOrM, eNotM, eIfM, aNil, aCons, eTup, eLst, mkLst, mkTup, eCB, eF, eSl, oPart, oNone, eUn, isB, truD, isiF, tyOf, subT, leD, ltD, gtD, geD, cmpD, lenF, lenN, neD, eqD, eqB, ofOpt, MM.keep, Res.bind, Res.toS, ixD, addD, subD, modD, fdivD, intF, List.replicate, setD, negD, mulD, sizeLine, sAsg, asg, asgs, items, sPar, n_add_mix, n_add_scale, n_add_swap, n_add_set, n_add_copy, n_mix_add, n_mix_scale, n_mix_swap, n_mix_set, n_mix_copy, n_scale_add, n_scale_mix, n_scale_swap, n_scale_set, n_scale_copy, n_swap_add, n_swap_mix, n_swap_scale, n_swap_set, n_swap_copy, n_set_add, n_set_mix, n_set_scale, n_set_swap, n_set_copy, n_copy_add, n_copy_mix, n_copy_scale, n_copy_swap, n_copy_set, i_add_addset, i_mix_addset, i_scale_addset, i_swap_addset, i_set_addset, i_copy_addset, i_add_setcopy, i_mix_setcopy, i_scale_setcopy, i_swap_setcopy, i_set_setcopy, i_copy_setcopy, i_add_mixcopy, i_mix_mixcopy, i_scale_mixcopy, i_swap_mixcopy, i_set_mixcopy, i_copy_mixcopy, MH.seq, listF, tupleF, allF, MF.bools_map, ixD2, dgetD, dkey, eDct, ePs, putDct, keysD, mergeD, putD, valD, gn1, gn0, gn00, gs10, gs01, aI0, aI1, aI2, aI3]), MH.get_add_ne _ _ (by simp [runD, sSeq, sRet, sIf, sSet, sEx, sSub, sNil, eVar, eC, eOp, eChain, tTruth, tBl, tNotM, tAndM, tOrM, eAndM, eOrM, eNotM, eIfM, aNil, aCons, eTup, eLst, mkLst, mkTup, eCB, eF, eSl, oPart, oNone, eUn, isB, truD, isiF, tyOf, subT, leD, ltD, gtD, geD, cmpD, lenF, lenN, neD, eqD, eqB, ofOpt, MM.keep, Res.bind, Res.toS, ixD, addD, subD, modD, fdivD, intF, List.replicate, setD, negD, mulD, sizeLine, sAsg, asg, asgs, items, sPar, n_add_mix, n_add_scale, n_add_swap, n_add_set, n_add_copy, n_mix_add, n_mix_scale, n_mix_swap, n_mix_set, n_mix_copy, n_scale_add, n_scale_mix, n_scale_swap, n_scale_set, n_scale_copy, n_swap_add, n_swap_mix, n_swap_scale, n_swap_set, n_swap_copy, n_set_add, n_set_mix, n_set_scale, n_set_swap, n_set_copy, n_copy_add, n_copy_mix, n_copy_scale, n_copy_swap, n_copy_set, i_add_addset, i_mix_addset, i_scale_addset, i_swap_addset, i_set_addset, i_copy_addset, i_add_setcopy, i_mix_setcopy, i_scale_setcopy, i_swap_setcopy, i_set_setcopy, i_copy_setcopy, i_add_mixcopy, i_mix_mixcopy, i_scale_mixcopy, i_swap_mixcopy, i_set_mixcopy, i_copy_mixcopy, MH.seq, listF, tupleF, allF, MF.bools_map, ixD2, dgetD, dkey, eDct, ePs, putDct, keysD, mergeD, putD, valD, gn1, gn0, gn00, gs10, gs01, aI0, aI1, aI2, aI3])]
  exact MH.get_add_same (h.add (.dct [])) _
theorem hU_2 (h : MH) : (hU h).get (h.n + 2) = some (.lst [.int 1, .int 3]) := by
  unfold hU
  rw [MH.get_set_ne _ _ (by omega), MH.get_add_ne _ _ (by simp [runD, sSeq, sRet, sIf, sSet, sEx, sSub, sNil, eVar, eC, eOp, eChain, tTruth, tBl, tNotM, tAndM, tOrM, eAndM, eOrM, eNotM, eIfM, aNil, aCons, eTup, eLst, mkLst, mkTup, eCB, eF, eSl, oPart, oNone, eUn, isB, truD, isiF, tyOf, subT, leD, ltD, gtD, geD, cmpD, lenF, lenN, neD, eqD, eqB, ofOpt, MM.keep, Res.bind, Res.toS, ixD, addD, subD, modD, fdivD, intF, List.replicate, setD, negD, mulD, sizeLine, sAsg, asg, asgs, items, sPar, n_add_mix, n_add_scale, n_add_swap, n_add_set, n_add_copy, n_mix_add, n_mix_scale, n_mix_swap, n_mix_set, n_mix_copy, n_scale_add, n_scale_mix, n_scale_swap, n_scale_set, n_scale_copy, n_swap_add, n_swap_mix, n_swap_scale, n_swap_set, n_swap_copy, n_set_add, n_set_mix, n_set_scale, n_set_swap, n_set_copy, n_copy_add, n_copy_mix, n_copy_scale, n_copy_swap, n_copy_set, i_add_addset, i_mix_addset, i_scale_addset, i_swap_addset, i_set_addset, i_copy_addset, i_add_setcopy, i_mix_setcopy, i_scale_setcopy, i_swap_setcopy, i_set_setcopy, i_copy_setcopy, i_add_mixcopy, i_mix_mixcopy, i_scale_mixcopy, i_swap_mixcopy, i_set_mixcopy, i_copy_mixcopy, MH.seq, listF, tupleF, allF, MF.bools_map, ixD2, dgetD, dkey, eDct, ePs, putDct, keysD, mergeD, putD, valD, gn1, gn0, gn00, gs10, gs01, aI0, aI1, aI2, aI3])]
  exact MH.get_add_same ((h.add (.dct [])).add (.lst [.int 1, .int 2])) _
theorem hU_3 (h : MH) : (hU h).get (h.n + 3) = some (.lst [.int 2, .int 3, .int 4]) := by
  unfold hU
  rw [MH.get_set_ne _ _ (by omega)]
  exact MH.get_add_same (((h.add (.dct [])).add (.lst [.int 1, .int 2])).add (.lst [.int 1, .int 3])) _
theorem unit {h : MH} {b : Int} (hb : 2 ≤ b ∧ b ≤ 5) {env : ME} (e6 : env[6]? = some (some (.ref h.n))) (e4 : env[4]? = some (some (.int b))) : ∃ (r : Nat) (xs : List D), eGet2 (eVar 6) (eVar 4) (eLst (aCons (eC (.int (1))) aNil)) env (hU h) = .ok (.ref r) ((hU h).add (.lst [.int 1])) ∧
    h.n < r ∧ r < h.n + 5 ∧ ((hU h).add (.lst [.int 1])).get r = some (.lst xs) ∧ xs ≠ [] ∧ xs.length < 1000 ∧ ∀ x ∈ xs, ∃ c : Int, x = .int c ∧ 0 ≤ c ∧ c < b := by
  have g0 : ((hU h).add (.lst [.int 1])).get h.n = some (.dct [(.inl 3, .ref (h.n + 1)), (.inl 4, .ref (h.n + 2)), (.inl 5, .ref (h.n + 3))]) := by rw [MH.get_add_ne _ _ (by rw [hU_n]; omega)]; exact hU_0 h
  have g1 : ((hU h).add (.lst [.int 1])).get (h.n + 1) = some (.lst [.int 1, .int 2]) := by rw [MH.get_add_ne _ _ (by rw [hU_n]; omega)]; exact hU_1 h
  have g2 : ((hU h).add (.lst [.int 1])).get (h.n + 2) = some (.lst [.int 1, .int 3]) := by rw [MH.get_add_ne _ _ (by rw [hU_n]; omega)]; exact hU_2 h
  have g3 : ((hU h).add (.lst [.int 1])).get (h.n + 3) = some (.lst [.int 2, .int 3, .int 4]) := by rw [MH.get_add_ne _ _ (by rw [hU_n]; omega)]; exact hU_3 h
  have g4 : ((hU h).add (.lst [.int 1])).get (h.n + 4) = some (.lst [.int 1]) := MH.get_add_same (hU h) _
  have h0 := hU_0 h
  have hbb : b = 2 ∨ b = 3 ∨ b = 4 ∨ b = 5 := by omega
  rcases hbb with rfl | rfl | rfl | rfl
  · refine ⟨h.n + 4, [.int 1], ?_, by omega, by omega, g4, by simp [runD, sSeq, sRet, sIf, sSet, sEx, sSub, sNil, eVar, eC, eOp, eChain, tTruth, tBl, tNotM, tAndM, tOrM, eAndM, eOrM, eNotM, eIfM, aNil, aCons, eTup, eLst, mkLst, mkTup, eCB, eF, eSl, oPart, oNone, eUn, isB, truD, isiF, tyOf, subT, leD, ltD, gtD, geD, cmpD, lenF, lenN, neD, eqD, eqB, ofOpt, MM.keep, Res.bind, Res.toS, ixD, addD, subD, modD, fdivD, intF, List.replicate, setD, negD, mulD, sizeLine, sAsg, asg, asgs, items, sPar, n_add_mix, n_add_scale, n_add_swap, n_add_set, n_add_copy, n_mix_add, n_mix_scale, n_mix_swap, n_mix_set, n_mix_copy, n_scale_add, n_scale_mix, n_scale_swap, n_scale_set, n_scale_copy, n_swap_add, n_swap_mix, n_swap_scale, n_swap_set, n_swap_copy, n_set_add, n_set_mix, n_set_scale, n_set_swap, n_set_copy, n_copy_add, n_copy_mix, n_copy_scale, n_copy_swap, n_copy_set, i_add_addset, i_mix_addset, i_scale_addset, i_swap_addset, i_set_addset, i_copy_addset, i_add_setcopy, i_mix_setcopy, i_scale_setcopy, i_swap_setcopy, i_set_setcopy, i_copy_setcopy, i_add_mixcopy, i_mix_mixcopy, i_scale_mixcopy, i_swap_mixcopy, i_set_mixcopy, i_copy_mixcopy, MH.seq, listF, tupleF, allF, MF.bools_map, ixD2, dgetD, dkey, eDct, ePs, putDct, keysD, mergeD, putD, valD, gn1, gn0, gn00, gs10, gs01, aI0, aI1, aI2, aI3], by simp [runD, sSeq, sRet, sIf, sSet, sEx, sSub, sNil, eVar, eC, eOp, eChain, tTruth, tBl, tNotM, tAndM, tOrM, eAndM, eOrM, eNotM, eIfM, aNil, aCons, eTup, eLst, mkLst, mkTup, eCB, eF, eSl, oPart, oNone, eUn, isB, truD, isiF, tyOf, subT, leD, ltD, gtD, geD, cmpD, lenF, lenN, neD, eqD, eqB, ofOpt, MM.keep, Res.bind, Res.toS, ixD, addD, subD, modD, fdivD, intF, List.replicate, setD, negD, mulD, sizeLine, sAsg, asg, asgs, items, sPar, n_add_mix, n_add_scale, n_add_swap, n_add_set, n_add_copy, n_mix_add, n_mix_scale, n_mix_swap, n_mix_set, n_mix_copy, n_scale_add, n_scale_mix, n_scale_swap, n_scale_set, n_scale_copy, n_swap_add, n_swap_mix, n_swap_scale, n_swap_set, n_swap_copy, n_set_add, n_set_mix, n_set_scale, n_set_swap, n_set_copy, n_copy_add, n_copy_mix, n_copy_scale, n_copy_swap, n_copy_set, i_add_addset, i_mix_addset, i_scale_addset, i_swap_addset, i_set_addset, i_copy_addset, i_add_setcopy, i_mix_setcopy, i_scale_setcopy, i_swap_setcopy, i_set_setcopy, i_copy_setcopy, i_add_mixcopy, i_mix_mixcopy, i_scale_mixcopy, i_swap_mixcopy, i_set_mixcopy, i_copy_mixcopy, MH.seq, listF, tupleF, allF, MF.bools_map, ixD2, dgetD, dkey, eDct, ePs, putDct, keysD, mergeD, putD, valD, gn1, gn0, gn00, gs10, gs01, aI0, aI1, aI2, aI3], ?_⟩
    · unfold eGet2; simp [runD, sSeq, sRet, sIf, sSet, sEx, sSub, sNil, eVar, eC, eOp, eChain, tTruth, tBl, tNotM, tAndM, tOrM, eAndM, eOrM, eNotM, eIfM, aNil, aCons, eTup, eLst, mkLst, mkTup, eCB, eF, eSl, oPart, oNone, eUn, isB, truD, isiF, tyOf, subT, leD, ltD, gtD, geD, cmpD, lenF, lenN, neD, eqD, eqB, ofOpt, MM.keep, Res.bind, Res.toS, ixD, addD, subD, modD, fdivD, intF, List.replicate, setD, negD, mulD, sizeLine, sAsg, asg, asgs, items, sPar, n_add_mix, n_add_scale, n_add_swap, n_add_set, n_add_copy, n_mix_add, n_mix_scale, n_mix_swap, n_mix_set, n_mix_copy, n_scale_add, n_scale_mix, n_scale_swap, n_scale_set, n_scale_copy, n_swap_add, n_swap_mix, n_swap_scale, n_swap_set, n_swap_copy, n_set_add, n_set_mix, n_set_scale, n_set_swap, n_set_copy, n_copy_add, n_copy_mix, n_copy_scale, n_copy_swap, n_copy_set, i_add_addset, i_mix_addset, i_scale_addset, i_swap_addset, i_set_addset, i_copy_addset, i_add_setcopy, i_mix_setcopy, i_scale_setcopy, i_swap_setcopy, i_set_setcopy, i_copy_setcopy, i_add_mixcopy, i_mix_mixcopy, i_scale_mixcopy, i_swap_mixcopy, i_set_mixcopy, i_copy_mixcopy, MH.seq, listF, tupleF, allF, MF.bools_map, ixD2, dgetD, dkey, eDct, ePs, putDct, keysD, mergeD, putD, valD, gn1, gn0, gn00, gs10, gs01, aI0, aI1, aI2, aI3, e6, e4, isDct, get2D, h0, g0, hU_n]
    · simp [runD, sSeq, sRet, sIf, sSet, sEx, sSub, sNil, eVar, eC, eOp, eChain, tTruth, tBl, tNotM, tAndM, tOrM, eAndM, eOrM, eNotM, eIfM, aNil, aCons, eTup, eLst, mkLst, mkTup, eCB, eF, eSl, oPart, oNone, eUn, isB, truD, isiF, tyOf, subT, leD, ltD, gtD, geD, cmpD, lenF, lenN, neD, eqD, eqB, ofOpt, MM.keep, Res.bind, Res.toS, ixD, addD, subD, modD, fdivD, intF, List.replicate, setD, negD, mulD, sizeLine, sAsg, asg, asgs, items, sPar, n_add_mix, n_add_scale, n_add_swap, n_add_set, n_add_copy, n_mix_add, n_mix_scale, n_mix_swap, n_mix_set, n_mix_copy, n_scale_add, n_scale_mix, n_scale_swap, n_scale_set, n_scale_copy, n_swap_add, n_swap_mix, n_swap_scale, n_swap_set, n_swap_copy, n_set_add, n_set_mix, n_set_scale, n_set_swap, n_set_copy, n_copy_add, n_copy_mix, n_copy_scale, n_copy_swap, n_copy_set, i_add_addset, i_mix_addset, i_scale_addset, i_swap_addset, i_set_addset, i_copy_addset, i_add_setcopy, i_mix_setcopy, i_scale_setcopy, i_swap_setcopy, i_set_setcopy, i_copy_setcopy, i_add_mixcopy, i_mix_mixcopy, i_scale_mixcopy, i_swap_mixcopy, i_set_mixcopy, i_copy_mixcopy, MH.seq, listF, tupleF, allF, MF.bools_map, ixD2, dgetD, dkey, eDct, ePs, putDct, keysD, mergeD, putD, valD, gn1, gn0, gn00, gs10, gs01, aI0, aI1, aI2, aI3]
  · refine ⟨h.n + 1, [.int 1, .int 2], ?_, by omega, by omega, g1, by simp [runD, sSeq, sRet, sIf, sSet, sEx, sSub, sNil, eVar, eC, eOp, eChain, tTruth, tBl, tNotM, tAndM, tOrM, eAndM, eOrM, eNotM, eIfM, aNil, aCons, eTup, eLst, mkLst, mkTup, eCB, eF, eSl, oPart, oNone, eUn, isB, truD, isiF, tyOf, subT, leD, ltD, gtD, geD, cmpD, lenF, lenN, neD, eqD, eqB, ofOpt, MM.keep, Res.bind, Res.toS, ixD, addD, subD, modD, fdivD, intF, List.replicate, setD, negD, mulD, sizeLine, sAsg, asg, asgs, items, sPar, n_add_mix, n_add_scale, n_add_swap, n_add_set, n_add_copy, n_mix_add, n_mix_scale, n_mix_swap, n_mix_set, n_mix_copy, n_scale_add, n_scale_mix, n_scale_swap, n_scale_set, n_scale_copy, n_swap_add, n_swap_mix, n_swap_scale, n_swap_set, n_swap_copy, n_set_add, n_set_mix, n_set_scale, n_set_swap, n_set_copy, n_copy_add, n_copy_mix, n_copy_scale, n_copy_swap, n_copy_set, i_add_addset, i_mix_addset, i_scale_addset, i_swap_addset, i_set_addset, i_copy_addset, i_add_setcopy, i_mix_setcopy, i_scale_setcopy, i_swap_setcopy, i_set_setcopy, i_copy_setcopy, i_add_mixcopy, i_mix_mixcopy, i_scale_mixcopy, i_swap_mixcopy, i_set_mixcopy, i_copy_mixcopy, MH.seq, listF, tupleF, allF, MF.bools_map, ixD2, dgetD, dkey, eDct, ePs, putDct, keysD, mergeD, putD, valD, gn1, gn0, gn00, gs10, gs01, aI0, aI1, aI2, aI3], by simp [runD, sSeq, sRet, sIf, sSet, sEx, sSub, sNil, eVar, eC, eOp, eChain, tTruth, tBl, tNotM, tAndM, tOrM, eAndM, eOrM, eNotM, eIfM, aNil, aCons, eTup, eLst, mkLst, mkTup, eCB, eF, eSl, oPart, oNone, eUn, isB, truD, isiF, tyOf, subT, leD, ltD, gtD, geD, cmpD, lenF, lenN, neD, eqD, eqB, ofOpt, MM.keep, Res.bind, Res.toS, ixD, addD, subD, modD, fdivD, intF, List.replicate, setD, negD, mulD, sizeLine, sAsg, asg, asgs, items, sPar, n_add_mix, n_add_scale, n_add_swap, n_add_set, n_add_copy, n_mix_add, n_mix_scale, n_mix_swap, n_mix_set, n_mix_copy, n_scale_add, n_scale_mix, n_scale_swap, n_scale_set, n_scale_copy, n_swap_add, n_swap_mix, n_swap_scale, n_swap_set, n_swap_copy, n_set_add, n_set_mix, n_set_scale, n_set_swap, n_set_copy, n_copy_add, n_copy_mix, n_copy_scale, n_copy_swap, n_copy_set, i_add_addset, i_mix_addset, i_scale_addset, i_swap_addset, i_set_addset, i_copy_addset, i_add_setcopy, i_mix_setcopy, i_scale_setcopy, i_swap_setcopy, i_set_setcopy, i_copy_setcopy, i_add_mixcopy, i_mix_mixcopy, i_scale_mixcopy, i_swap_mixcopy, i_set_mixcopy, i_copy_mixcopy, MH.seq, listF, tupleF, allF, MF.bools_map, ixD2, dgetD, dkey, eDct, ePs, putDct, keysD, mergeD, putD, valD, gn1, gn0, gn00, gs10, gs01, aI0, aI1, aI2, aI3], ?_⟩
    · unfold eGet2; simp [runD, sSeq, sRet, sIf, sSet, sEx, sSub, sNil, eVar, eC, eOp, eChain, tTruth, tBl, tNotM, tAndM, tOrM, eAndM, eOrM, eNotM, eIfM, aNil, aCons, eTup, eLst, mkLst, mkTup, eCB, eF, eSl, oPart, oNone, eUn, isB, truD, isiF, tyOf, subT, leD, ltD, gtD, geD, cmpD, lenF, lenN, neD, eqD, eqB, ofOpt, MM.keep, Res.bind, Res.toS, ixD, addD, subD, modD, fdivD, intF, List.replicate, setD, negD, mulD, sizeLine, sAsg, asg, asgs, items, sPar, n_add_mix, n_add_scale, n_add_swap, n_add_set, n_add_copy, n_mix_add, n_mix_scale, n_mix_swap, n_mix_set, n_mix_copy, n_scale_add, n_scale_mix, n_scale_swap, n_scale_set, n_scale_copy, n_swap_add, n_swap_mix, n_swap_scale, n_swap_set, n_swap_copy, n_set_add, n_set_mix, n_set_scale, n_set_swap, n_set_copy, n_copy_add, n_copy_mix, n_copy_scale, n_copy_swap, n_copy_set, i_add_addset, i_mix_addset, i_scale_addset, i_swap_addset, i_set_addset, i_copy_addset, i_add_setcopy, i_mix_setcopy, i_scale_setcopy, i_swap_setcopy, i_set_setcopy, i_copy_setcopy, i_add_mixcopy, i_mix_mixcopy, i_scale_mixcopy, i_swap_mixcopy, i_set_mixcopy, i_copy_mixcopy, MH.seq, listF, tupleF, allF, MF.bools_map, ixD2, dgetD, dkey, eDct, ePs, putDct, keysD, mergeD, putD, valD, gn1, gn0, gn00, gs10, gs01, aI0, aI1, aI2, aI3, e6, e4, isDct, get2D, h0, g0, hU_n]
    · simp [runD, sSeq, sRet, sIf, sSet, sEx, sSub, sNil, eVar, eC, eOp, eChain, tTruth, tBl, tNotM, tAndM, tOrM, eAndM, eOrM, eNotM, eIfM, aNil, aCons, eTup, eLst, mkLst, mkTup, eCB, eF, eSl, oPart, oNone, eUn, isB, truD, isiF, tyOf, subT, leD, ltD, gtD, geD, cmpD, lenF, lenN, neD, eqD, eqB, ofOpt, MM.keep, Res.bind, Res.toS, ixD, addD, subD, modD, fdivD, intF, List.replicate, setD, negD, mulD, sizeLine, sAsg, asg, asgs, items, sPar, n_add_mix, n_add_scale, n_add_swap, n_add_set, n_add_copy, n_mix_add, n_mix_scale, n_mix_swap, n_mix_set, n_mix_copy, n_scale_add, n_scale_mix, n_scale_swap, n_scale_set, n_scale_copy, n_swap_add, n_swap_mix, n_swap_scale, n_swap_set, n_swap_copy, n_set_add, n_set_mix, n_set_scale, n_set_swap, n_set_copy, n_copy_add, n_copy_mix, n_copy_scale, n_copy_swap, n_copy_set, i_add_addset, i_mix_addset, i_scale_addset, i_swap_addset, i_set_addset, i_copy_addset, i_add_setcopy, i_mix_setcopy, i_scale_setcopy, i_swap_setcopy, i_set_setcopy, i_copy_setcopy, i_add_mixcopy, i_mix_mixcopy, i_scale_mixcopy, i_swap_mixcopy, i_set_mixcopy, i_copy_mixcopy, MH.seq, listF, tupleF, allF, MF.bools_map, ixD2, dgetD, dkey, eDct, ePs, putDct, keysD, mergeD, putD, valD, gn1, gn0, gn00, gs10, gs01, aI0, aI1, aI2, aI3]
  · refine ⟨h.n + 2, [.int 1, .int 3], ?_, by omega, by omega, g2, by simp [runD, sSeq, sRet, sIf, sSet, sEx, sSub, sNil, eVar, eC, eOp, eChain, tTruth, tBl, tNotM, tAndM, tOrM, eAndM, eOrM, eNotM, eIfM, aNil, aCons, eTup, eLst, mkLst, mkTup, eCB, eF, eSl, oPart, oNone, eUn, isB, truD, isiF, tyOf, subT, leD, ltD, gtD, geD, cmpD, lenF, lenN, neD, eqD, eqB, ofOpt, MM.keep, Res.bind, Res.toS, ixD, addD, subD, modD, fdivD, intF, List.replicate, setD, negD, mulD, sizeLine, sAsg, asg, asgs, items, sPar, n_add_mix, n_add_scale, n_add_swap, n_add_set, n_add_copy, n_mix_add, n_mix_scale, n_mix_swap, n_mix_set, n_mix_copy, n_scale_add, n_scale_mix, n_scale_swap, n_scale_set, n_scale_copy, n_swap_add, n_swap_mix, n_swap_scale, n_swap_set, n_swap_copy, n_set_add, n_set_mix, n_set_scale, n_set_swap, n_set_copy, n_copy_add, n_copy_mix, n_copy_scale, n_copy_swap, n_copy_set, i_add_addset, i_mix_addset, i_scale_addset, i_swap_addset, i_set_addset, i_copy_addset, i_add_setcopy, i_mix_setcopy, i_scale_setcopy, i_swap_setcopy, i_set_setcopy, i_copy_setcopy, i_add_mixcopy, i_mix_mixcopy, i_scale_mixcopy, i_swap_mixcopy, i_set_mixcopy, i_copy_mixcopy, MH.seq, listF, tupleF, allF, MF.bools_map, ixD2, dgetD, dkey, eDct, ePs, putDct, keysD, mergeD, putD, valD, gn1, gn0, gn00, gs10, gs01, aI0, aI1, aI2, aI3], by simp [runD, sSeq, sRet, sIf, sSet, sEx, sSub, sNil, eVar, eC, eOp, eChain, tTruth, tBl, tNotM, tAndM, tOrM, eAndM, eOrM, eNotM, eIfM, aNil, aCons, eTup, eLst, mkLst, mkTup, eCB, eF, eSl, oPart, oNone, eUn, isB, truD, isiF, tyOf, subT, leD, ltD, gtD, geD, cmpD, lenF, lenN, neD, eqD, eqB, ofOpt, MM.keep, Res.bind, Res.toS, ixD, addD, subD, modD, fdivD, intF, List.replicate, setD, negD, mulD, sizeLine, sAsg, asg, asgs, items, sPar, n_add_mix, n_add_scale, n_add_swap, n_add_set, n_add_copy, n_mix_add, n_mix_scale, n_mix_swap, n_mix_set, n_mix_copy, n_scale_add, n_scale_mix, n_scale_swap, n_scale_set, n_scale_copy, n_swap_add, n_swap_mix, n_swap_scale, n_swap_set, n_swap_copy, n_set_add, n_set_mix, n_set_scale, n_set_swap, n_set_copy, n_copy_add, n_copy_mix, n_copy_scale, n_copy_swap, n_copy_set, i_add_addset, i_mix_addset, i_scale_addset, i_swap_addset, i_set_addset, i_copy_addset, i_add_setcopy, i_mix_setcopy, i_scale_setcopy, i_swap_setcopy, i_set_setcopy, i_copy_setcopy, i_add_mixcopy, i_mix_mixcopy, i_scale_mixcopy, i_swap_mixcopy, i_set_mixcopy, i_copy_mixcopy, MH.seq, listF, tupleF, allF, MF.bools_map, ixD2, dgetD, dkey, eDct, ePs, putDct, keysD, mergeD, putD, valD, gn1, gn0, gn00, gs10, gs01, aI0, aI1, aI2, aI3], ?_⟩
    · unfold eGet2; simp [runD, sSeq, sRet, sIf, sSet, sEx, sSub, sNil, eVar, eC, eOp, eChain, tTruth, tBl, tNotM, tAndM, tOrM, eAndM, eOrM, eNotM, eIfM, aNil, aCons, eTup, eLst, mkLst, mkTup, eCB, eF, eSl, oPart, oNone, eUn, isB, truD, isiF, tyOf, subT, leD, ltD, gtD, geD, cmpD, lenF, lenN, neD, eqD, eqB, ofOpt, MM.keep, Res.bind, Res.toS, ixD, addD, subD, modD, fdivD, intF, List.replicate, setD, negD, mulD, sizeLine, sAsg, asg, asgs, items, sPar, n_add_mix, n_add_scale, n_add_swap, n_add_set, n_add_copy, n_mix_add, n_mix_scale, n_mix_swap, n_mix_set, n_mix_copy, n_scale_add, n_scale_mix, n_scale_swap, n_scale_set, n_scale_copy, n_swap_add, n_swap_mix, n_swap_scale, n_swap_set, n_swap_copy, n_set_add, n_set_mix, n_set_scale, n_set_swap, n_set_copy, n_copy_add, n_copy_mix, n_copy_scale, n_copy_swap, n_copy_set, i_add_addset, i_mix_addset, i_scale_addset, i_swap_addset, i_set_addset, i_copy_addset, i_add_setcopy, i_mix_setcopy, i_scale_setcopy, i_swap_setcopy, i_set_setcopy, i_copy_setcopy, i_add_mixcopy, i_mix_mixcopy, i_scale_mixcopy, i_swap_mixcopy, i_set_mixcopy, i_copy_mixcopy, MH.seq, listF, tupleF, allF, MF.bools_map, ixD2, dgetD, dkey, eDct, ePs, putDct, keysD, mergeD, putD, valD, gn1, gn0, gn00, gs10, gs01, aI0, aI1, aI2, aI3, e6, e4, isDct, get2D, h0, g0, hU_n]
    · simp [runD, sSeq, sRet, sIf, sSet, sEx, sSub, sNil, eVar, eC, eOp, eChain, tTruth, tBl, tNotM, tAndM, tOrM, eAndM, eOrM, eNotM, eIfM, aNil, aCons, eTup, eLst, mkLst, mkTup, eCB, eF, eSl, oPart, oNone, eUn, isB, truD, isiF, tyOf, subT, leD, ltD, gtD, geD, cmpD, lenF, lenN, neD, eqD, eqB, ofOpt, MM.keep, Res.bind, Res.toS, ixD, addD, subD, modD, fdivD, intF, List.replicate, setD, negD, mulD, sizeLine, sAsg, asg, asgs, items, sPar, n_add_mix, n_add_scale, n_add_swap, n_add_set, n_add_copy, n_mix_add, n_mix_scale, n_mix_swap, n_mix_set, n_mix_copy, n_scale_add, n_scale_mix, n_scale_swap, n_scale_set, n_scale_copy, n_swap_add, n_swap_mix, n_swap_scale, n_swap_set, n_swap_copy, n_set_add, n_set_mix, n_set_scale, n_set_swap, n_set_copy, n_copy_add, n_copy_mix, n_copy_scale, n_copy_swap, n_copy_set, i_add_addset, i_mix_addset, i_scale_addset, i_swap_addset, i_set_addset, i_copy_addset, i_add_setcopy, i_mix_setcopy, i_scale_setcopy, i_swap_setcopy, i_set_setcopy, i_copy_setcopy, i_add_mixcopy, i_mix_mixcopy, i_scale_mixcopy, i_swap_mixcopy, i_set_mixcopy, i_copy_mixcopy, MH.seq, listF, tupleF, allF, MF.bools_map, ixD2, dgetD, dkey, eDct, ePs, putDct, keysD, mergeD, putD, valD, gn1, gn0, gn00, gs10, gs01, aI0, aI1, aI2, aI3]
  · refine ⟨h.n + 3, [.int 2, .int 3, .int 4], ?_, by omega, by omega, g3, by simp [runD, sSeq, sRet, sIf, sSet, sEx, sSub, sNil, eVar, eC, eOp, eChain, tTruth, tBl, tNotM, tAndM, tOrM, eAndM, eOrM, eNotM, eIfM, aNil, aCons, eTup, eLst, mkLst, mkTup, eCB, eF, eSl, oPart, oNone, eUn, isB, truD, isiF, tyOf, subT, leD, ltD, gtD, geD, cmpD, lenF, lenN, neD, eqD, eqB, ofOpt, MM.keep, Res.bind, Res.toS, ixD, addD, subD, modD, fdivD, intF, List.replicate, setD, negD, mulD, sizeLine, sAsg, asg, asgs, items, sPar, n_add_mix, n_add_scale, n_add_swap, n_add_set, n_add_copy, n_mix_add, n_mix_scale, n_mix_swap, n_mix_set, n_mix_copy, n_scale_add, n_scale_mix, n_scale_swap, n_scale_set, n_scale_copy, n_swap_add, n_swap_mix, n_swap_scale, n_swap_set, n_swap_copy, n_set_add, n_set_mix, n_set_scale, n_set_swap, n_set_copy, n_copy_add, n_copy_mix, n_copy_scale, n_copy_swap, n_copy_set, i_add_addset, i_mix_addset, i_scale_addset, i_swap_addset, i_set_addset, i_copy_addset, i_add_setcopy, i_mix_setcopy, i_scale_setcopy, i_swap_setcopy, i_set_setcopy, i_copy_setcopy, i_add_mixcopy, i_mix_mixcopy, i_scale_mixcopy, i_swap_mixcopy, i_set_mixcopy, i_copy_mixcopy, MH.seq, listF, tupleF, allF, MF.bools_map, ixD2, dgetD, dkey, eDct, ePs, putDct, keysD, mergeD, putD, valD, gn1, gn0, gn00, gs10, gs01, aI0, aI1, aI2, aI3], by simp [runD, sSeq, sRet, sIf, sSet, sEx, sSub, sNil, eVar, eC, eOp, eChain, tTruth, tBl, tNotM, tAndM, tOrM, eAndM, eOrM, eNotM, eIfM, aNil, aCons, eTup, eLst, mkLst, mkTup, eCB, eF, eSl, oPart, oNone, eUn, isB, truD, isiF, tyOf, subT, leD, ltD, gtD, geD, cmpD, lenF, lenN, neD, eqD, eqB, ofOpt, MM.keep, Res.bind, Res.toS, ixD, addD, subD, modD, fdivD, intF, List.replicate, setD, negD, mulD, sizeLine, sAsg, asg, asgs, items, sPar, n_add_mix, n_add_scale, n_add_swap, n_add_set, n_add_copy, n_mix_add, n_mix_scale, n_mix_swap, n_mix_set, n_mix_copy, n_scale_add, n_scale_mix, n_scale_swap, n_scale_set, n_scale_copy, n_swap_add, n_swap_mix, n_swap_scale, n_swap_set, n_swap_copy, n_set_add, n_set_mix, n_set_scale, n_set_swap, n_set_copy, n_copy_add, n_copy_mix, n_copy_scale, n_copy_swap, n_copy_set, i_add_addset, i_mix_addset, i_scale_addset, i_swap_addset, i_set_addset, i_copy_addset, i_add_setcopy, i_mix_setcopy, i_scale_setcopy, i_swap_setcopy, i_set_setcopy, i_copy_setcopy, i_add_mixcopy, i_mix_mixcopy, i_scale_mixcopy, i_swap_mixcopy, i_set_mixcopy, i_copy_mixcopy, MH.seq, listF, tupleF, allF, MF.bools_map, ixD2, dgetD, dkey, eDct, ePs, putDct, keysD, mergeD, putD, valD, gn1, gn0, gn00, gs10, gs01, aI0, aI1, aI2, aI3], ?_⟩
    · unfold eGet2; simp [runD, sSeq, sRet, sIf, sSet, sEx, sSub, sNil, eVar, eC, eOp, eChain, tTruth, tBl, tNotM, tAndM, tOrM, eAndM, eOrM, eNotM, eIfM, aNil, aCons, eTup, eLst, mkLst, mkTup, eCB, eF, eSl, oPart, oNone, eUn, isB, truD, isiF, tyOf, subT, leD, ltD, gtD, geD, cmpD, lenF, lenN, neD, eqD, eqB, ofOpt, MM.keep, Res.bind, Res.toS, ixD, addD, subD, modD, fdivD, intF, List.replicate, setD, negD, mulD, sizeLine, sAsg, asg, asgs, items, sPar, n_add_mix, n_add_scale, n_add_swap, n_add_set, n_add_copy, n_mix_add, n_mix_scale, n_mix_swap, n_mix_set, n_mix_copy, n_scale_add, n_scale_mix, n_scale_swap, n_scale_set, n_scale_copy, n_swap_add, n_swap_mix, n_swap_scale, n_swap_set, n_swap_copy, n_set_add, n_set_mix, n_set_scale, n_set_swap, n_set_copy, n_copy_add, n_copy_mix, n_copy_scale, n_copy_swap, n_copy_set, i_add_addset, i_mix_addset, i_scale_addset, i_swap_addset, i_set_addset, i_copy_addset, i_add_setcopy, i_mix_setcopy, i_scale_setcopy, i_swap_setcopy, i_set_setcopy, i_copy_setcopy, i_add_mixcopy, i_mix_mixcopy, i_scale_mixcopy, i_swap_mixcopy, i_set_mixcopy, i_copy_mixcopy, MH.seq, listF, tupleF, allF, MF.bools_map, ixD2, dgetD, dkey, eDct, ePs, putDct, keysD, mergeD, putD, valD, gn1, gn0, gn00, gs10, gs01, aI0, aI1, aI2, aI3, e6, e4, isDct, get2D, h0, g0, hU_n]
    · simp [runD, sSeq, sRet, sIf, sSet, sEx, sSub, sNil, eVar, eC, eOp, eChain, tTruth, tBl, tNotM, tAndM, tOrM, eAndM, eOrM, eNotM, eIfM, aNil, aCons, eTup, eLst, mkLst, mkTup, eCB, eF, eSl, oPart, oNone, eUn, isB, truD, isiF, tyOf, subT, leD, ltD, gtD, geD, cmpD, lenF, lenN, neD, eqD, eqB, ofOpt, MM.keep, Res.bind, Res.toS, ixD, addD, subD, modD, fdivD, intF, List.replicate, setD, negD, mulD, sizeLine, sAsg, asg, asgs, items, sPar, n_add_mix, n_add_scale, n_add_swap, n_add_set, n_add_copy, n_mix_add, n_mix_scale, n_mix_swap, n_mix_set, n_mix_copy, n_scale_add, n_scale_mix, n_scale_swap, n_scale_set, n_scale_copy, n_swap_add, n_swap_mix, n_swap_scale, n_swap_set, n_swap_copy, n_set_add, n_set_mix, n_set_scale, n_set_swap, n_set_copy, n_copy_add, n_copy_mix, n_copy_scale, n_copy_swap, n_copy_set, i_add_addset, i_mix_addset, i_scale_addset, i_swap_addset, i_set_addset, i_copy_addset, i_add_setcopy, i_mix_setcopy, i_scale_setcopy, i_swap_setcopy, i_set_setcopy, i_copy_setcopy, i_add_mixcopy, i_mix_mixcopy, i_scale_mixcopy, i_swap_mixcopy, i_set_mixcopy, i_copy_mixcopy, MH.seq, listF, tupleF, allF, MF.bools_map, ixD2, dgetD, dkey, eDct, ePs, putDct, keysD, mergeD, putD, valD, gn1, gn0, gn00, gs10, gs01, aI0, aI1, aI2, aI3]
theorem action {i index : Nat} {bs : List Int} (s : Sh bs) (hi : index < bs.length) {w : D} (hw : w ∈ [D.str (Str.ofString "add"), .str (Str.ofString "mix"), .str (Str.ofString "mix"), .str (Str.ofString "scale"), .str (Str.ofString "swap"), .str (Str.ofString "set"), .str (Str.ofString "copy")]) (h : MH) (f : Fd i h h) :
    ∃ (act : List D) (h' : MH), m__law_action [.ref i, .tup (bs.map .int), w, .int index] h = .ok (.tup act) h' ∧ Act bs act ∧ Fd i h h' := by
  obtain ⟨os, h1, e1, x1, n1, g1, l1, m1⟩ := others (i := i) (index := index) s w h
  have b := s.at hi
  have xb := ix_at (ds := bs) hi
  have lt := f.lt
  have f1 : Fd i h h1 := Ext.fd f x1
  -- the way of a digit alone
  have fin : ∀ (w' : String), (∀ c : Int, 0 ≤ c → c < 70 → Act bs [.str (Str.ofString w'), .int index, .int c]) → ∀ h2, Fd i h h2 → ∃ (r : Int) (h3 : MH), m__law_take [.ref i, .int (at_ bs index)] h2 = .ok (.int r) h3 ∧ Act bs [.str (Str.ofString w'), .int index, .int r] ∧ Fd i h h3 := fun w' ac h2 f2 => by
    obtain ⟨r, h3, r0, r1, e, f3, n3⟩ := take f2.lt f2.fd (m := at_ bs index) (by omega) (by omega)
    exact ⟨r, h3, e, ac r r0 (by omega), f2.trans f3⟩
  have hE : Fd i h (h1.add (.lst [])) := f1.add _
  have gE : (h1.add (.lst [])).get h.n = some (.lst (os.map .int)) := by rw [MH.get_add_ne _ _ (by omega)]; exact g1
  have ne := neNil gE (MH.get_add_same h1 (.lst []))
  simp only [List.mem_cons, List.not_mem_nil, or_false] at hw
  have s0 : sAsg (.tp [(.nm 4), (.nm 5)]) (eTup (aCons (eOp ixD (eVar 1) (eVar 3)) (aCons (eLc (iRng1M (aCons (eCB lenF (aCons (eVar 1) aNil)) aNil)) (.nm 8) (tBl (eOp neD (eVar 8) (eVar 3))) (eVar 8) [8]) aNil)))
      [some (.ref i), some (.tup (bs.map .int)), some w, some (.int index), none, none, none, none, none] h = .nx [some (.ref i), some (.tup (bs.map .int)), some w, some (.int index), some (.int (at_ bs index)), some (.ref h.n), none, none, none] h1 := by
    exact asgTwo (two (ixEnv (a := .non) (b := .non) rfl rfl xb) e1)
  have plain : ∀ (x y : String), w = .str (Str.ofString x) → x ∈ ["add", "set"] → (∀ c : Int, 0 ≤ c → c < 70 → Act bs [.str (Str.ofString x), .int index, .int c]) → ∃ (act : List D) (h' : MH), m__law_action [.ref i, .tup (bs.map .int), w, .int index] h = .ok (.tup act) h' ∧ Act bs act ∧ Fd i h h' := by
    intro x y ew hx ac
    subst ew
    obtain ⟨r, h3, e3, a3, f3⟩ := fin x ac h1 f1
    refine ⟨_, h3, runD_rt ((sSeq_nx s0).trans ?_), a3, f3⟩
    simp only [List.mem_cons, List.not_mem_nil, or_false] at hx
    rcases hx with rfl | rfl
    · refine (sSeq_skip (h1 := h1) (by simp [runD, sSeq, sRet, sIf, sSet, sEx, sSub, sNil, eVar, eC, eOp, eChain, tTruth, tBl, tNotM, tAndM, tOrM, eAndM, eOrM, eNotM, eIfM, aNil, aCons, eTup, eLst, mkLst, mkTup, eCB, eF, eSl, oPart, oNone, eUn, isB, truD, isiF, tyOf, subT, leD, ltD, gtD, geD, cmpD, lenF, lenN, neD, eqD, eqB, ofOpt, MM.keep, Res.bind, Res.toS, ixD, addD, subD, modD, fdivD, intF, List.replicate, setD, negD, mulD, sizeLine, sAsg, asg, asgs, items, sPar, n_add_mix, n_add_scale, n_add_swap, n_add_set, n_add_copy, n_mix_add, n_mix_scale, n_mix_swap, n_mix_set, n_mix_copy, n_scale_add, n_scale_mix, n_scale_swap, n_scale_set, n_scale_copy, n_swap_add, n_swap_mix, n_swap_scale, n_swap_set, n_swap_copy, n_set_add, n_set_mix, n_set_scale, n_set_swap, n_set_copy, n_copy_add, n_copy_mix, n_copy_scale, n_copy_swap, n_copy_set, i_add_addset, i_mix_addset, i_scale_addset, i_swap_addset, i_set_addset, i_copy_addset, i_add_setcopy, i_mix_setcopy, i_scale_setcopy, i_swap_setcopy, i_set_setcopy, i_copy_setcopy, i_add_mixcopy, i_mix_mixcopy, i_scale_mixcopy, i_swap_mixcopy, i_set_mixcopy, i_copy_mixcopy, MH.seq, listF, tupleF, allF, MF.bools_map, ixD2, dgetD, dkey, eDct, ePs, putDct, keysD, mergeD, putD, valD, gn1, gn0, gn00, gs10, gs01, aI0, aI1, aI2, aI3])).trans ?_
      refine (sSeq_skip (h1 := h1) (by simp [runD, sSeq, sRet, sIf, sSet, sEx, sSub, sNil, eVar, eC, eOp, eChain, tTruth, tBl, tNotM, tAndM, tOrM, eAndM, eOrM, eNotM, eIfM, aNil, aCons, eTup, eLst, mkLst, mkTup, eCB, eF, eSl, oPart, oNone, eUn, isB, truD, isiF, tyOf, subT, leD, ltD, gtD, geD, cmpD, lenF, lenN, neD, eqD, eqB, ofOpt, MM.keep, Res.bind, Res.toS, ixD, addD, subD, modD, fdivD, intF, List.replicate, setD, negD, mulD, sizeLine, sAsg, asg, asgs, items, sPar, n_add_mix, n_add_scale, n_add_swap, n_add_set, n_add_copy, n_mix_add, n_mix_scale, n_mix_swap, n_mix_set, n_mix_copy, n_scale_add, n_scale_mix, n_scale_swap, n_scale_set, n_scale_copy, n_swap_add, n_swap_mix, n_swap_scale, n_swap_set, n_swap_copy, n_set_add, n_set_mix, n_set_scale, n_set_swap, n_set_copy, n_copy_add, n_copy_mix, n_copy_scale, n_copy_swap, n_copy_set, i_add_addset, i_mix_addset, i_scale_addset, i_swap_addset, i_set_addset, i_copy_addset, i_add_setcopy, i_mix_setcopy, i_scale_setcopy, i_swap_setcopy, i_set_setcopy, i_copy_setcopy, i_add_mixcopy, i_mix_mixcopy, i_scale_mixcopy, i_swap_mixcopy, i_set_mixcopy, i_copy_mixcopy, MH.seq, listF, tupleF, allF, MF.bools_map, ixD2, dgetD, dkey, eDct, ePs, putDct, keysD, mergeD, putD, valD, gn1, gn0, gn00, gs10, gs01, aI0, aI1, aI2, aI3])).trans ?_
      refine (sSeq_skip (h1 := h1) (by simp [runD, sSeq, sRet, sIf, sSet, sEx, sSub, sNil, eVar, eC, eOp, eChain, tTruth, tBl, tNotM, tAndM, tOrM, eAndM, eOrM, eNotM, eIfM, aNil, aCons, eTup, eLst, mkLst, mkTup, eCB, eF, eSl, oPart, oNone, eUn, isB, truD, isiF, tyOf, subT, leD, ltD, gtD, geD, cmpD, lenF, lenN, neD, eqD, eqB, ofOpt, MM.keep, Res.bind, Res.toS, ixD, addD, subD, modD, fdivD, intF, List.replicate, setD, negD, mulD, sizeLine, sAsg, asg, asgs, items, sPar, n_add_mix, n_add_scale, n_add_swap, n_add_set, n_add_copy, n_mix_add, n_mix_scale, n_mix_swap, n_mix_set, n_mix_copy, n_scale_add, n_scale_mix, n_scale_swap, n_scale_set, n_scale_copy, n_swap_add, n_swap_mix, n_swap_scale, n_swap_set, n_swap_copy, n_set_add, n_set_mix, n_set_scale, n_set_swap, n_set_copy, n_copy_add, n_copy_mix, n_copy_scale, n_copy_swap, n_copy_set, i_add_addset, i_mix_addset, i_scale_addset, i_swap_addset, i_set_addset, i_copy_addset, i_add_setcopy, i_mix_setcopy, i_scale_setcopy, i_swap_setcopy, i_set_setcopy, i_copy_setcopy, i_add_mixcopy, i_mix_mixcopy, i_scale_mixcopy, i_swap_mixcopy, i_set_mixcopy, i_copy_mixcopy, MH.seq, listF, tupleF, allF, MF.bools_map, ixD2, dgetD, dkey, eDct, ePs, putDct, keysD, mergeD, putD, valD, gn1, gn0, gn00, gs10, gs01, aI0, aI1, aI2, aI3])).trans ?_
      refine (sSeq_skip (h1 := h1) (by simp [runD, sSeq, sRet, sIf, sSet, sEx, sSub, sNil, eVar, eC, eOp, eChain, tTruth, tBl, tNotM, tAndM, tOrM, eAndM, eOrM, eNotM, eIfM, aNil, aCons, eTup, eLst, mkLst, mkTup, eCB, eF, eSl, oPart, oNone, eUn, isB, truD, isiF, tyOf, subT, leD, ltD, gtD, geD, cmpD, lenF, lenN, neD, eqD, eqB, ofOpt, MM.keep, Res.bind, Res.toS, ixD, addD, subD, modD, fdivD, intF, List.replicate, setD, negD, mulD, sizeLine, sAsg, asg, asgs, items, sPar, n_add_mix, n_add_scale, n_add_swap, n_add_set, n_add_copy, n_mix_add, n_mix_scale, n_mix_swap, n_mix_set, n_mix_copy, n_scale_add, n_scale_mix, n_scale_swap, n_scale_set, n_scale_copy, n_swap_add, n_swap_mix, n_swap_scale, n_swap_set, n_swap_copy, n_set_add, n_set_mix, n_set_scale, n_set_swap, n_set_copy, n_copy_add, n_copy_mix, n_copy_scale, n_copy_swap, n_copy_set, i_add_addset, i_mix_addset, i_scale_addset, i_swap_addset, i_set_addset, i_copy_addset, i_add_setcopy, i_mix_setcopy, i_scale_setcopy, i_swap_setcopy, i_set_setcopy, i_copy_setcopy, i_add_mixcopy, i_mix_mixcopy, i_scale_mixcopy, i_swap_mixcopy, i_set_mixcopy, i_copy_mixcopy, MH.seq, listF, tupleF, allF, MF.bools_map, ixD2, dgetD, dkey, eDct, ePs, putDct, keysD, mergeD, putD, valD, gn1, gn0, gn00, gs10, gs01, aI0, aI1, aI2, aI3])).trans ?_
      simp [runD, sSeq, sRet, sIf, sSet, sEx, sSub, sNil, eVar, eC, eOp, eChain, tTruth, tBl, tNotM, tAndM, tOrM, eAndM, eOrM, eNotM, eIfM, aNil, aCons, eTup, eLst, mkLst, mkTup, eCB, eF, eSl, oPart, oNone, eUn, isB, truD, isiF, tyOf, subT, leD, ltD, gtD, geD, cmpD, lenF, lenN, neD, eqD, eqB, ofOpt, MM.keep, Res.bind, Res.toS, ixD, addD, subD, modD, fdivD, intF, List.replicate, setD, negD, mulD, sizeLine, sAsg, asg, asgs, items, sPar, n_add_mix, n_add_scale, n_add_swap, n_add_set, n_add_copy, n_mix_add, n_mix_scale, n_mix_swap, n_mix_set, n_mix_copy, n_scale_add, n_scale_mix, n_scale_swap, n_scale_set, n_scale_copy, n_swap_add, n_swap_mix, n_swap_scale, n_swap_set, n_swap_copy, n_set_add, n_set_mix, n_set_scale, n_set_swap, n_set_copy, n_copy_add, n_copy_mix, n_copy_scale, n_copy_swap, n_copy_set, i_add_addset, i_mix_addset, i_scale_addset, i_swap_addset, i_set_addset, i_copy_addset, i_add_setcopy, i_mix_setcopy, i_scale_setcopy, i_swap_setcopy, i_set_setcopy, i_copy_setcopy, i_add_mixcopy, i_mix_mixcopy, i_scale_mixcopy, i_swap_mixcopy, i_set_mixcopy, i_copy_mixcopy, MH.seq, listF, tupleF, allF, MF.bools_map, ixD2, dgetD, dkey, eDct, ePs, putDct, keysD, mergeD, putD, valD, gn1, gn0, gn00, gs10, gs01, aI0, aI1, aI2, aI3, e3]
    · refine (sSeq_skip (h1 := h1) (by simp [runD, sSeq, sRet, sIf, sSet, sEx, sSub, sNil, eVar, eC, eOp, eChain, tTruth, tBl, tNotM, tAndM, tOrM, eAndM, eOrM, eNotM, eIfM, aNil, aCons, eTup, eLst, mkLst, mkTup, eCB, eF, eSl, oPart, oNone, eUn, isB, truD, isiF, tyOf, subT, leD, ltD, gtD, geD, cmpD, lenF, lenN, neD, eqD, eqB, ofOpt, MM.keep, Res.bind, Res.toS, ixD, addD, subD, modD, fdivD, intF, List.replicate, setD, negD, mulD, sizeLine, sAsg, asg, asgs, items, sPar, n_add_mix, n_add_scale, n_add_swap, n_add_set, n_add_copy, n_mix_add, n_mix_scale, n_mix_swap, n_mix_set, n_mix_copy, n_scale_add, n_scale_mix, n_scale_swap, n_scale_set, n_scale_copy, n_swap_add, n_swap_mix, n_swap_scale, n_swap_set, n_swap_copy, n_set_add, n_set_mix, n_set_scale, n_set_swap, n_set_copy, n_copy_add, n_copy_mix, n_copy_scale, n_copy_swap, n_copy_set, i_add_addset, i_mix_addset, i_scale_addset, i_swap_addset, i_set_addset, i_copy_addset, i_add_setcopy, i_mix_setcopy, i_scale_setcopy, i_swap_setcopy, i_set_setcopy, i_copy_setcopy, i_add_mixcopy, i_mix_mixcopy, i_scale_mixcopy, i_swap_mixcopy, i_set_mixcopy, i_copy_mixcopy, MH.seq, listF, tupleF, allF, MF.bools_map, ixD2, dgetD, dkey, eDct, ePs, putDct, keysD, mergeD, putD, valD, gn1, gn0, gn00, gs10, gs01, aI0, aI1, aI2, aI3])).trans ?_
      refine (sSeq_skip (h1 := h1) (by simp [runD, sSeq, sRet, sIf, sSet, sEx, sSub, sNil, eVar, eC, eOp, eChain, tTruth, tBl, tNotM, tAndM, tOrM, eAndM, eOrM, eNotM, eIfM, aNil, aCons, eTup, eLst, mkLst, mkTup, eCB, eF, eSl, oPart, oNone, eUn, isB, truD, isiF, tyOf, subT, leD, ltD, gtD, geD, cmpD, lenF, lenN, neD, eqD, eqB, ofOpt, MM.keep, Res.bind, Res.toS, ixD, addD, subD, modD, fdivD, intF, List.replicate, setD, negD, mulD, sizeLine, sAsg, asg, asgs, items, sPar, n_add_mix, n_add_scale, n_add_swap, n_add_set, n_add_copy, n_mix_add, n_mix_scale, n_mix_swap, n_mix_set, n_mix_copy, n_scale_add, n_scale_mix, n_scale_swap, n_scale_set, n_scale_copy, n_swap_add, n_swap_mix, n_swap_scale, n_swap_set, n_swap_copy, n_set_add, n_set_mix, n_set_scale, n_set_swap, n_set_copy, n_copy_add, n_copy_mix, n_copy_scale, n_copy_swap, n_copy_set, i_add_addset, i_mix_addset, i_scale_addset, i_swap_addset, i_set_addset, i_copy_addset, i_add_setcopy, i_mix_setcopy, i_scale_setcopy, i_swap_setcopy, i_set_setcopy, i_copy_setcopy, i_add_mixcopy, i_mix_mixcopy, i_scale_mixcopy, i_swap_mixcopy, i_set_mixcopy, i_copy_mixcopy, MH.seq, listF, tupleF, allF, MF.bools_map, ixD2, dgetD, dkey, eDct, ePs, putDct, keysD, mergeD, putD, valD, gn1, gn0, gn00, gs10, gs01, aI0, aI1, aI2, aI3])).trans ?_
      refine (sSeq_skip (h1 := h1) (by simp [runD, sSeq, sRet, sIf, sSet, sEx, sSub, sNil, eVar, eC, eOp, eChain, tTruth, tBl, tNotM, tAndM, tOrM, eAndM, eOrM, eNotM, eIfM, aNil, aCons, eTup, eLst, mkLst, mkTup, eCB, eF, eSl, oPart, oNone, eUn, isB, truD, isiF, tyOf, subT, leD, ltD, gtD, geD, cmpD, lenF, lenN, neD, eqD, eqB, ofOpt, MM.keep, Res.bind, Res.toS, ixD, addD, subD, modD, fdivD, intF, List.replicate, setD, negD, mulD, sizeLine, sAsg, asg, asgs, items, sPar, n_add_mix, n_add_scale, n_add_swap, n_add_set, n_add_copy, n_mix_add, n_mix_scale, n_mix_swap, n_mix_set, n_mix_copy, n_scale_add, n_scale_mix, n_scale_swap, n_scale_set, n_scale_copy, n_swap_add, n_swap_mix, n_swap_scale, n_swap_set, n_swap_copy, n_set_add, n_set_mix, n_set_scale, n_set_swap, n_set_copy, n_copy_add, n_copy_mix, n_copy_scale, n_copy_swap, n_copy_set, i_add_addset, i_mix_addset, i_scale_addset, i_swap_addset, i_set_addset, i_copy_addset, i_add_setcopy, i_mix_setcopy, i_scale_setcopy, i_swap_setcopy, i_set_setcopy, i_copy_setcopy, i_add_mixcopy, i_mix_mixcopy, i_scale_mixcopy, i_swap_mixcopy, i_set_mixcopy, i_copy_mixcopy, MH.seq, listF, tupleF, allF, MF.bools_map, ixD2, dgetD, dkey, eDct, ePs, putDct, keysD, mergeD, putD, valD, gn1, gn0, gn00, gs10, gs01, aI0, aI1, aI2, aI3])).trans ?_
      refine (sSeq_skip (h1 := h1) (by simp [runD, sSeq, sRet, sIf, sSet, sEx, sSub, sNil, eVar, eC, eOp, eChain, tTruth, tBl, tNotM, tAndM, tOrM, eAndM, eOrM, eNotM, eIfM, aNil, aCons, eTup, eLst, mkLst, mkTup, eCB, eF, eSl, oPart, oNone, eUn, isB, truD, isiF, tyOf, subT, leD, ltD, gtD, geD, cmpD, lenF, lenN, neD, eqD, eqB, ofOpt, MM.keep, Res.bind, Res.toS, ixD, addD, subD, modD, fdivD, intF, List.replicate, setD, negD, mulD, sizeLine, sAsg, asg, asgs, items, sPar, n_add_mix, n_add_scale, n_add_swap, n_add_set, n_add_copy, n_mix_add, n_mix_scale, n_mix_swap, n_mix_set, n_mix_copy, n_scale_add, n_scale_mix, n_scale_swap, n_scale_set, n_scale_copy, n_swap_add, n_swap_mix, n_swap_scale, n_swap_set, n_swap_copy, n_set_add, n_set_mix, n_set_scale, n_set_swap, n_set_copy, n_copy_add, n_copy_mix, n_copy_scale, n_copy_swap, n_copy_set, i_add_addset, i_mix_addset, i_scale_addset, i_swap_addset, i_set_addset, i_copy_addset, i_add_setcopy, i_mix_setcopy, i_scale_setcopy, i_swap_setcopy, i_set_setcopy, i_copy_setcopy, i_add_mixcopy, i_mix_mixcopy, i_scale_mixcopy, i_swap_mixcopy, i_set_mixcopy, i_copy_mixcopy, MH.seq, listF, tupleF, allF, MF.bools_map, ixD2, dgetD, dkey, eDct, ePs, putDct, keysD, mergeD, putD, valD, gn1, gn0, gn00, gs10, gs01, aI0, aI1, aI2, aI3])).trans ?_
      simp [runD, sSeq, sRet, sIf, sSet, sEx, sSub, sNil, eVar, eC, eOp, eChain, tTruth, tBl, tNotM, tAndM, tOrM, eAndM, eOrM, eNotM, eIfM, aNil, aCons, eTup, eLst, mkLst, mkTup, eCB, eF, eSl, oPart, oNone, eUn, isB, truD, isiF, tyOf, subT, leD, ltD, gtD, geD, cmpD, lenF, lenN, neD, eqD, eqB, ofOpt, MM.keep, Res.bind, Res.toS, ixD, addD, subD, modD, fdivD, intF, List.replicate, setD, negD, mulD, sizeLine, sAsg, asg, asgs, items, sPar, n_add_mix, n_add_scale, n_add_swap, n_add_set, n_add_copy, n_mix_add, n_mix_scale, n_mix_swap, n_mix_set, n_mix_copy, n_scale_add, n_scale_mix, n_scale_swap, n_scale_set, n_scale_copy, n_swap_add, n_swap_mix, n_swap_scale, n_swap_set, n_swap_copy, n_set_add, n_set_mix, n_set_scale, n_set_swap, n_set_copy, n_copy_add, n_copy_mix, n_copy_scale, n_copy_swap, n_copy_set, i_add_addset, i_mix_addset, i_scale_addset, i_swap_addset, i_set_addset, i_copy_addset, i_add_setcopy, i_mix_setcopy, i_scale_setcopy, i_swap_setcopy, i_set_setcopy, i_copy_setcopy, i_add_mixcopy, i_mix_mixcopy, i_scale_mixcopy, i_swap_mixcopy, i_set_mixcopy, i_copy_mixcopy, MH.seq, listF, tupleF, allF, MF.bools_map, ixD2, dgetD, dkey, eDct, ePs, putDct, keysD, mergeD, putD, valD, gn1, gn0, gn00, gs10, gs01, aI0, aI1, aI2, aI3, e3]
  have gat : h1.get h.n = some (.lst (os.map .int)) := g1
  have pk : os.isEmpty = false → ∃ (j : Nat) (h2 : MH), j < bs.length ∧ m__law_pick [.ref i, .ref h.n] (h1.add (.lst [])) = .ok (.int j) h2 ∧ Fd i h h2 := fun q => by
    have nz : os.map D.int ≠ [] := by
      intro e
      have : os = [] := List.map_eq_nil_iff.mp e
      rw [this] at q; cases q
    obtain ⟨x, h2, m, e, f2, n2⟩ := pick hE.lt hE.fd gE (by omega) (by simp [runD, sSeq, sRet, sIf, sSet, sEx, sSub, sNil, eVar, eC, eOp, eChain, tTruth, tBl, tNotM, tAndM, tOrM, eAndM, eOrM, eNotM, eIfM, aNil, aCons, eTup, eLst, mkLst, mkTup, eCB, eF, eSl, oPart, oNone, eUn, isB, truD, isiF, tyOf, subT, leD, ltD, gtD, geD, cmpD, lenF, lenN, neD, eqD, eqB, ofOpt, MM.keep, Res.bind, Res.toS, ixD, addD, subD, modD, fdivD, intF, List.replicate, setD, negD, mulD, sizeLine, sAsg, asg, asgs, items, sPar, n_add_mix, n_add_scale, n_add_swap, n_add_set, n_add_copy, n_mix_add, n_mix_scale, n_mix_swap, n_mix_set, n_mix_copy, n_scale_add, n_scale_mix, n_scale_swap, n_scale_set, n_scale_copy, n_swap_add, n_swap_mix, n_swap_scale, n_swap_set, n_swap_copy, n_set_add, n_set_mix, n_set_scale, n_set_swap, n_set_copy, n_copy_add, n_copy_mix, n_copy_scale, n_copy_swap, n_copy_set, i_add_addset, i_mix_addset, i_scale_addset, i_swap_addset, i_set_addset, i_copy_addset, i_add_setcopy, i_mix_setcopy, i_scale_setcopy, i_swap_setcopy, i_set_setcopy, i_copy_setcopy, i_add_mixcopy, i_mix_mixcopy, i_scale_mixcopy, i_swap_mixcopy, i_set_mixcopy, i_copy_mixcopy, MH.seq, listF, tupleF, allF, MF.bools_map, ixD2, dgetD, dkey, eDct, ePs, putDct, keysD, mergeD, putD, valD, gn1, gn0, gn00, gs10, gs01, aI0, aI1, aI2, aI3]; omega) nz (by simp [runD, sSeq, sRet, sIf, sSet, sEx, sSub, sNil, eVar, eC, eOp, eChain, tTruth, tBl, tNotM, tAndM, tOrM, eAndM, eOrM, eNotM, eIfM, aNil, aCons, eTup, eLst, mkLst, mkTup, eCB, eF, eSl, oPart, oNone, eUn, isB, truD, isiF, tyOf, subT, leD, ltD, gtD, geD, cmpD, lenF, lenN, neD, eqD, eqB, ofOpt, MM.keep, Res.bind, Res.toS, ixD, addD, subD, modD, fdivD, intF, List.replicate, setD, negD, mulD, sizeLine, sAsg, asg, asgs, items, sPar, n_add_mix, n_add_scale, n_add_swap, n_add_set, n_add_copy, n_mix_add, n_mix_scale, n_mix_swap, n_mix_set, n_mix_copy, n_scale_add, n_scale_mix, n_scale_swap, n_scale_set, n_scale_copy, n_swap_add, n_swap_mix, n_swap_scale, n_swap_set, n_swap_copy, n_set_add, n_set_mix, n_set_scale, n_set_swap, n_set_copy, n_copy_add, n_copy_mix, n_copy_scale, n_copy_swap, n_copy_set, i_add_addset, i_mix_addset, i_scale_addset, i_swap_addset, i_set_addset, i_copy_addset, i_add_setcopy, i_mix_setcopy, i_scale_setcopy, i_swap_setcopy, i_set_setcopy, i_copy_setcopy, i_add_mixcopy, i_mix_mixcopy, i_scale_mixcopy, i_swap_mixcopy, i_set_mixcopy, i_copy_mixcopy, MH.seq, listF, tupleF, allF, MF.bools_map, ixD2, dgetD, dkey, eDct, ePs, putDct, keysD, mergeD, putD, valD, gn1, gn0, gn00, gs10, gs01, aI0, aI1, aI2, aI3]; omega)
    obtain ⟨o, ho, rfl⟩ := List.mem_map.mp m
    obtain ⟨o0, o1⟩ := m1 o ho
    obtain ⟨j, rfl⟩ := Int.eq_ofNat_of_zero_le o0
    exact ⟨j, h2, by omega, e, hE.trans f2⟩
  have mixed : ∀ (x : String), w = .str (Str.ofString x) → x = "mix" ∨ x = "copy" → ∃ (act : List D) (h' : MH), m__law_action [.ref i, .tup (bs.map .int), w, .int index] h = .ok (.tup act) h' ∧ Act bs act ∧ Fd i h h' := by
    intro x ew hx
    subst ew
    cases q : os.isEmpty with
    | false =>
      obtain ⟨j, h2, hj, e2, f2⟩ := pk q
      rcases hx with rfl | rfl
      · obtain ⟨r, h3, r0, r1, e3, f3, n3⟩ := take f2.lt f2.fd (m := at_ bs index - 1) (by omega) (by omega)
        refine ⟨[.str (Str.ofString "mix"), .int index, .int j, .int (1 + r)], h3, runD_rt ((sSeq_nx s0).trans ?_), .mix hi hj (by omega) (by omega), f2.trans f3⟩
        refine (sSeq_skip (h1 := h1) (by simp [runD, sSeq, sRet, sIf, sSet, sEx, sSub, sNil, eVar, eC, eOp, eChain, tTruth, tBl, tNotM, tAndM, tOrM, eAndM, eOrM, eNotM, eIfM, aNil, aCons, eTup, eLst, mkLst, mkTup, eCB, eF, eSl, oPart, oNone, eUn, isB, truD, isiF, tyOf, subT, leD, ltD, gtD, geD, cmpD, lenF, lenN, neD, eqD, eqB, ofOpt, MM.keep, Res.bind, Res.toS, ixD, addD, subD, modD, fdivD, intF, List.replicate, setD, negD, mulD, sizeLine, sAsg, asg, asgs, items, sPar, n_add_mix, n_add_scale, n_add_swap, n_add_set, n_add_copy, n_mix_add, n_mix_scale, n_mix_swap, n_mix_set, n_mix_copy, n_scale_add, n_scale_mix, n_scale_swap, n_scale_set, n_scale_copy, n_swap_add, n_swap_mix, n_swap_scale, n_swap_set, n_swap_copy, n_set_add, n_set_mix, n_set_scale, n_set_swap, n_set_copy, n_copy_add, n_copy_mix, n_copy_scale, n_copy_swap, n_copy_set, i_add_addset, i_mix_addset, i_scale_addset, i_swap_addset, i_set_addset, i_copy_addset, i_add_setcopy, i_mix_setcopy, i_scale_setcopy, i_swap_setcopy, i_set_setcopy, i_copy_setcopy, i_add_mixcopy, i_mix_mixcopy, i_scale_mixcopy, i_swap_mixcopy, i_set_mixcopy, i_copy_mixcopy, MH.seq, listF, tupleF, allF, MF.bools_map, ixD2, dgetD, dkey, eDct, ePs, putDct, keysD, mergeD, putD, valD, gn1, gn0, gn00, gs10, gs01, aI0, aI1, aI2, aI3])).trans ?_
        refine (sSeq_skip (h1 := h1) (by simp [runD, sSeq, sRet, sIf, sSet, sEx, sSub, sNil, eVar, eC, eOp, eChain, tTruth, tBl, tNotM, tAndM, tOrM, eAndM, eOrM, eNotM, eIfM, aNil, aCons, eTup, eLst, mkLst, mkTup, eCB, eF, eSl, oPart, oNone, eUn, isB, truD, isiF, tyOf, subT, leD, ltD, gtD, geD, cmpD, lenF, lenN, neD, eqD, eqB, ofOpt, MM.keep, Res.bind, Res.toS, ixD, addD, subD, modD, fdivD, intF, List.replicate, setD, negD, mulD, sizeLine, sAsg, asg, asgs, items, sPar, n_add_mix, n_add_scale, n_add_swap, n_add_set, n_add_copy, n_mix_add, n_mix_scale, n_mix_swap, n_mix_set, n_mix_copy, n_scale_add, n_scale_mix, n_scale_swap, n_scale_set, n_scale_copy, n_swap_add, n_swap_mix, n_swap_scale, n_swap_set, n_swap_copy, n_set_add, n_set_mix, n_set_scale, n_set_swap, n_set_copy, n_copy_add, n_copy_mix, n_copy_scale, n_copy_swap, n_copy_set, i_add_addset, i_mix_addset, i_scale_addset, i_swap_addset, i_set_addset, i_copy_addset, i_add_setcopy, i_mix_setcopy, i_scale_setcopy, i_swap_setcopy, i_set_setcopy, i_copy_setcopy, i_add_mixcopy, i_mix_mixcopy, i_scale_mixcopy, i_swap_mixcopy, i_set_mixcopy, i_copy_mixcopy, MH.seq, listF, tupleF, allF, MF.bools_map, ixD2, dgetD, dkey, eDct, ePs, putDct, keysD, mergeD, putD, valD, gn1, gn0, gn00, gs10, gs01, aI0, aI1, aI2, aI3])).trans ?_
        refine (sSeq_go (h1 := h1.add (.lst [])) (by simp [runD, sSeq, sRet, sIf, sSet, sEx, sSub, sNil, eVar, eC, eOp, eChain, tTruth, tBl, tNotM, tAndM, tOrM, eAndM, eOrM, eNotM, eIfM, aNil, aCons, eTup, eLst, mkLst, mkTup, eCB, eF, eSl, oPart, oNone, eUn, isB, truD, isiF, tyOf, subT, leD, ltD, gtD, geD, cmpD, lenF, lenN, neD, eqD, eqB, ofOpt, MM.keep, Res.bind, Res.toS, ixD, addD, subD, modD, fdivD, intF, List.replicate, setD, negD, mulD, sizeLine, sAsg, asg, asgs, items, sPar, n_add_mix, n_add_scale, n_add_swap, n_add_set, n_add_copy, n_mix_add, n_mix_scale, n_mix_swap, n_mix_set, n_mix_copy, n_scale_add, n_scale_mix, n_scale_swap, n_scale_set, n_scale_copy, n_swap_add, n_swap_mix, n_swap_scale, n_swap_set, n_swap_copy, n_set_add, n_set_mix, n_set_scale, n_set_swap, n_set_copy, n_copy_add, n_copy_mix, n_copy_scale, n_copy_swap, n_copy_set, i_add_addset, i_mix_addset, i_scale_addset, i_swap_addset, i_set_addset, i_copy_addset, i_add_setcopy, i_mix_setcopy, i_scale_setcopy, i_swap_setcopy, i_set_setcopy, i_copy_setcopy, i_add_mixcopy, i_mix_mixcopy, i_scale_mixcopy, i_swap_mixcopy, i_set_mixcopy, i_copy_mixcopy, MH.seq, listF, tupleF, allF, MF.bools_map, ixD2, dgetD, dkey, eDct, ePs, putDct, keysD, mergeD, putD, valD, gn1, gn0, gn00, gs10, gs01, aI0, aI1, aI2, aI3, ne, q, -neD])).trans (sSeq_rt ?_)
        simp [runD, sSeq, sRet, sIf, sSet, sEx, sSub, sNil, eVar, eC, eOp, eChain, tTruth, tBl, tNotM, tAndM, tOrM, eAndM, eOrM, eNotM, eIfM, aNil, aCons, eTup, eLst, mkLst, mkTup, eCB, eF, eSl, oPart, oNone, eUn, isB, truD, isiF, tyOf, subT, leD, ltD, gtD, geD, cmpD, lenF, lenN, neD, eqD, eqB, ofOpt, MM.keep, Res.bind, Res.toS, ixD, addD, subD, modD, fdivD, intF, List.replicate, setD, negD, mulD, sizeLine, sAsg, asg, asgs, items, sPar, n_add_mix, n_add_scale, n_add_swap, n_add_set, n_add_copy, n_mix_add, n_mix_scale, n_mix_swap, n_mix_set, n_mix_copy, n_scale_add, n_scale_mix, n_scale_swap, n_scale_set, n_scale_copy, n_swap_add, n_swap_mix, n_swap_scale, n_swap_set, n_swap_copy, n_set_add, n_set_mix, n_set_scale, n_set_swap, n_set_copy, n_copy_add, n_copy_mix, n_copy_scale, n_copy_swap, n_copy_set, i_add_addset, i_mix_addset, i_scale_addset, i_swap_addset, i_set_addset, i_copy_addset, i_add_setcopy, i_mix_setcopy, i_scale_setcopy, i_swap_setcopy, i_set_setcopy, i_copy_setcopy, i_add_mixcopy, i_mix_mixcopy, i_scale_mixcopy, i_swap_mixcopy, i_set_mixcopy, i_copy_mixcopy, MH.seq, listF, tupleF, allF, MF.bools_map, ixD2, dgetD, dkey, eDct, ePs, putDct, keysD, mergeD, putD, valD, gn1, gn0, gn00, gs10, gs01, aI0, aI1, aI2, aI3, e2, e3]
      · refine ⟨[.str (Str.ofString "copy"), .int index, .int j], h2, runD_rt ((sSeq_nx s0).trans ?_), .copy hi hj, f2⟩
        refine (sSeq_skip (h1 := h1) (by simp [runD, sSeq, sRet, sIf, sSet, sEx, sSub, sNil, eVar, eC, eOp, eChain, tTruth, tBl, tNotM, tAndM, tOrM, eAndM, eOrM, eNotM, eIfM, aNil, aCons, eTup, eLst, mkLst, mkTup, eCB, eF, eSl, oPart, oNone, eUn, isB, truD, isiF, tyOf, subT, leD, ltD, gtD, geD, cmpD, lenF, lenN, neD, eqD, eqB, ofOpt, MM.keep, Res.bind, Res.toS, ixD, addD, subD, modD, fdivD, intF, List.replicate, setD, negD, mulD, sizeLine, sAsg, asg, asgs, items, sPar, n_add_mix, n_add_scale, n_add_swap, n_add_set, n_add_copy, n_mix_add, n_mix_scale, n_mix_swap, n_mix_set, n_mix_copy, n_scale_add, n_scale_mix, n_scale_swap, n_scale_set, n_scale_copy, n_swap_add, n_swap_mix, n_swap_scale, n_swap_set, n_swap_copy, n_set_add, n_set_mix, n_set_scale, n_set_swap, n_set_copy, n_copy_add, n_copy_mix, n_copy_scale, n_copy_swap, n_copy_set, i_add_addset, i_mix_addset, i_scale_addset, i_swap_addset, i_set_addset, i_copy_addset, i_add_setcopy, i_mix_setcopy, i_scale_setcopy, i_swap_setcopy, i_set_setcopy, i_copy_setcopy, i_add_mixcopy, i_mix_mixcopy, i_scale_mixcopy, i_swap_mixcopy, i_set_mixcopy, i_copy_mixcopy, MH.seq, listF, tupleF, allF, MF.bools_map, ixD2, dgetD, dkey, eDct, ePs, putDct, keysD, mergeD, putD, valD, gn1, gn0, gn00, gs10, gs01, aI0, aI1, aI2, aI3])).trans ?_
        refine (sSeq_skip (h1 := h1) (by simp [runD, sSeq, sRet, sIf, sSet, sEx, sSub, sNil, eVar, eC, eOp, eChain, tTruth, tBl, tNotM, tAndM, tOrM, eAndM, eOrM, eNotM, eIfM, aNil, aCons, eTup, eLst, mkLst, mkTup, eCB, eF, eSl, oPart, oNone, eUn, isB, truD, isiF, tyOf, subT, leD, ltD, gtD, geD, cmpD, lenF, lenN, neD, eqD, eqB, ofOpt, MM.keep, Res.bind, Res.toS, ixD, addD, subD, modD, fdivD, intF, List.replicate, setD, negD, mulD, sizeLine, sAsg, asg, asgs, items, sPar, n_add_mix, n_add_scale, n_add_swap, n_add_set, n_add_copy, n_mix_add, n_mix_scale, n_mix_swap, n_mix_set, n_mix_copy, n_scale_add, n_scale_mix, n_scale_swap, n_scale_set, n_scale_copy, n_swap_add, n_swap_mix, n_swap_scale, n_swap_set, n_swap_copy, n_set_add, n_set_mix, n_set_scale, n_set_swap, n_set_copy, n_copy_add, n_copy_mix, n_copy_scale, n_copy_swap, n_copy_set, i_add_addset, i_mix_addset, i_scale_addset, i_swap_addset, i_set_addset, i_copy_addset, i_add_setcopy, i_mix_setcopy, i_scale_setcopy, i_swap_setcopy, i_set_setcopy, i_copy_setcopy, i_add_mixcopy, i_mix_mixcopy, i_scale_mixcopy, i_swap_mixcopy, i_set_mixcopy, i_copy_mixcopy, MH.seq, listF, tupleF, allF, MF.bools_map, ixD2, dgetD, dkey, eDct, ePs, putDct, keysD, mergeD, putD, valD, gn1, gn0, gn00, gs10, gs01, aI0, aI1, aI2, aI3])).trans ?_
        refine (sSeq_go (h1 := h1.add (.lst [])) (by simp [runD, sSeq, sRet, sIf, sSet, sEx, sSub, sNil, eVar, eC, eOp, eChain, tTruth, tBl, tNotM, tAndM, tOrM, eAndM, eOrM, eNotM, eIfM, aNil, aCons, eTup, eLst, mkLst, mkTup, eCB, eF, eSl, oPart, oNone, eUn, isB, truD, isiF, tyOf, subT, leD, ltD, gtD, geD, cmpD, lenF, lenN, neD, eqD, eqB, ofOpt, MM.keep, Res.bind, Res.toS, ixD, addD, subD, modD, fdivD, intF, List.replicate, setD, negD, mulD, sizeLine, sAsg, asg, asgs, items, sPar, n_add_mix, n_add_scale, n_add_swap, n_add_set, n_add_copy, n_mix_add, n_mix_scale, n_mix_swap, n_mix_set, n_mix_copy, n_scale_add, n_scale_mix, n_scale_swap, n_scale_set, n_scale_copy, n_swap_add, n_swap_mix, n_swap_scale, n_swap_set, n_swap_copy, n_set_add, n_set_mix, n_set_scale, n_set_swap, n_set_copy, n_copy_add, n_copy_mix, n_copy_scale, n_copy_swap, n_copy_set, i_add_addset, i_mix_addset, i_scale_addset, i_swap_addset, i_set_addset, i_copy_addset, i_add_setcopy, i_mix_setcopy, i_scale_setcopy, i_swap_setcopy, i_set_setcopy, i_copy_setcopy, i_add_mixcopy, i_mix_mixcopy, i_scale_mixcopy, i_swap_mixcopy, i_set_mixcopy, i_copy_mixcopy, MH.seq, listF, tupleF, allF, MF.bools_map, ixD2, dgetD, dkey, eDct, ePs, putDct, keysD, mergeD, putD, valD, gn1, gn0, gn00, gs10, gs01, aI0, aI1, aI2, aI3, ne, q, -neD])).trans (sSeq_rt ?_)
        simp [runD, sSeq, sRet, sIf, sSet, sEx, sSub, sNil, eVar, eC, eOp, eChain, tTruth, tBl, tNotM, tAndM, tOrM, eAndM, eOrM, eNotM, eIfM, aNil, aCons, eTup, eLst, mkLst, mkTup, eCB, eF, eSl, oPart, oNone, eUn, isB, truD, isiF, tyOf, subT, leD, ltD, gtD, geD, cmpD, lenF, lenN, neD, eqD, eqB, ofOpt, MM.keep, Res.bind, Res.toS, ixD, addD, subD, modD, fdivD, intF, List.replicate, setD, negD, mulD, sizeLine, sAsg, asg, asgs, items, sPar, n_add_mix, n_add_scale, n_add_swap, n_add_set, n_add_copy, n_mix_add, n_mix_scale, n_mix_swap, n_mix_set, n_mix_copy, n_scale_add, n_scale_mix, n_scale_swap, n_scale_set, n_scale_copy, n_swap_add, n_swap_mix, n_swap_scale, n_swap_set, n_swap_copy, n_set_add, n_set_mix, n_set_scale, n_set_swap, n_set_copy, n_copy_add, n_copy_mix, n_copy_scale, n_copy_swap, n_copy_set, i_add_addset, i_mix_addset, i_scale_addset, i_swap_addset, i_set_addset, i_copy_addset, i_add_setcopy, i_mix_setcopy, i_scale_setcopy, i_swap_setcopy, i_set_setcopy, i_copy_setcopy, i_add_mixcopy, i_mix_mixcopy, i_scale_mixcopy, i_swap_mixcopy, i_set_mixcopy, i_copy_mixcopy, MH.seq, listF, tupleF, allF, MF.bools_map, ixD2, dgetD, dkey, eDct, ePs, putDct, keysD, mergeD, putD, valD, gn1, gn0, gn00, gs10, gs01, aI0, aI1, aI2, aI3, e2]
    | true =>
      rcases hx with rfl | rfl
      · obtain ⟨r, h3, e3, a3, f3⟩ := fin "add" (fun c c0 c1 => .add hi c0 c1) (h1.add (.lst [])) hE
        refine ⟨_, h3, runD_rt ((sSeq_nx s0).trans ?_), a3, f3⟩
        refine (sSeq_skip (h1 := h1) (by simp [runD, sSeq, sRet, sIf, sSet, sEx, sSub, sNil, eVar, eC, eOp, eChain, tTruth, tBl, tNotM, tAndM, tOrM, eAndM, eOrM, eNotM, eIfM, aNil, aCons, eTup, eLst, mkLst, mkTup, eCB, eF, eSl, oPart, oNone, eUn, isB, truD, isiF, tyOf, subT, leD, ltD, gtD, geD, cmpD, lenF, lenN, neD, eqD, eqB, ofOpt, MM.keep, Res.bind, Res.toS, ixD, addD, subD, modD, fdivD, intF, List.replicate, setD, negD, mulD, sizeLine, sAsg, asg, asgs, items, sPar, n_add_mix, n_add_scale, n_add_swap, n_add_set, n_add_copy, n_mix_add, n_mix_scale, n_mix_swap, n_mix_set, n_mix_copy, n_scale_add, n_scale_mix, n_scale_swap, n_scale_set, n_scale_copy, n_swap_add, n_swap_mix, n_swap_scale, n_swap_set, n_swap_copy, n_set_add, n_set_mix, n_set_scale, n_set_swap, n_set_copy, n_copy_add, n_copy_mix, n_copy_scale, n_copy_swap, n_copy_set, i_add_addset, i_mix_addset, i_scale_addset, i_swap_addset, i_set_addset, i_copy_addset, i_add_setcopy, i_mix_setcopy, i_scale_setcopy, i_swap_setcopy, i_set_setcopy, i_copy_setcopy, i_add_mixcopy, i_mix_mixcopy, i_scale_mixcopy, i_swap_mixcopy, i_set_mixcopy, i_copy_mixcopy, MH.seq, listF, tupleF, allF, MF.bools_map, ixD2, dgetD, dkey, eDct, ePs, putDct, keysD, mergeD, putD, valD, gn1, gn0, gn00, gs10, gs01, aI0, aI1, aI2, aI3])).trans ?_
        refine (sSeq_skip (h1 := h1) (by simp [runD, sSeq, sRet, sIf, sSet, sEx, sSub, sNil, eVar, eC, eOp, eChain, tTruth, tBl, tNotM, tAndM, tOrM, eAndM, eOrM, eNotM, eIfM, aNil, aCons, eTup, eLst, mkLst, mkTup, eCB, eF, eSl, oPart, oNone, eUn, isB, truD, isiF, tyOf, subT, leD, ltD, gtD, geD, cmpD, lenF, lenN, neD, eqD, eqB, ofOpt, MM.keep, Res.bind, Res.toS, ixD, addD, subD, modD, fdivD, intF, List.replicate, setD, negD, mulD, sizeLine, sAsg, asg, asgs, items, sPar, n_add_mix, n_add_scale, n_add_swap, n_add_set, n_add_copy, n_mix_add, n_mix_scale, n_mix_swap, n_mix_set, n_mix_copy, n_scale_add, n_scale_mix, n_scale_swap, n_scale_set, n_scale_copy, n_swap_add, n_swap_mix, n_swap_scale, n_swap_set, n_swap_copy, n_set_add, n_set_mix, n_set_scale, n_set_swap, n_set_copy, n_copy_add, n_copy_mix, n_copy_scale, n_copy_swap, n_copy_set, i_add_addset, i_mix_addset, i_scale_addset, i_swap_addset, i_set_addset, i_copy_addset, i_add_setcopy, i_mix_setcopy, i_scale_setcopy, i_swap_setcopy, i_set_setcopy, i_copy_setcopy, i_add_mixcopy, i_mix_mixcopy, i_scale_mixcopy, i_swap_mixcopy, i_set_mixcopy, i_copy_mixcopy, MH.seq, listF, tupleF, allF, MF.bools_map, ixD2, dgetD, dkey, eDct, ePs, putDct, keysD, mergeD, putD, valD, gn1, gn0, gn00, gs10, gs01, aI0, aI1, aI2, aI3])).trans ?_
        refine (sSeq_skip (h1 := h1.add (.lst [])) (by simp [runD, sSeq, sRet, sIf, sSet, sEx, sSub, sNil, eVar, eC, eOp, eChain, tTruth, tBl, tNotM, tAndM, tOrM, eAndM, eOrM, eNotM, eIfM, aNil, aCons, eTup, eLst, mkLst, mkTup, eCB, eF, eSl, oPart, oNone, eUn, isB, truD, isiF, tyOf, subT, leD, ltD, gtD, geD, cmpD, lenF, lenN, neD, eqD, eqB, ofOpt, MM.keep, Res.bind, Res.toS, ixD, addD, subD, modD, fdivD, intF, List.replicate, setD, negD, mulD, sizeLine, sAsg, asg, asgs, items, sPar, n_add_mix, n_add_scale, n_add_swap, n_add_set, n_add_copy, n_mix_add, n_mix_scale, n_mix_swap, n_mix_set, n_mix_copy, n_scale_add, n_scale_mix, n_scale_swap, n_scale_set, n_scale_copy, n_swap_add, n_swap_mix, n_swap_scale, n_swap_set, n_swap_copy, n_set_add, n_set_mix, n_set_scale, n_set_swap, n_set_copy, n_copy_add, n_copy_mix, n_copy_scale, n_copy_swap, n_copy_set, i_add_addset, i_mix_addset, i_scale_addset, i_swap_addset, i_set_addset, i_copy_addset, i_add_setcopy, i_mix_setcopy, i_scale_setcopy, i_swap_setcopy, i_set_setcopy, i_copy_setcopy, i_add_mixcopy, i_mix_mixcopy, i_scale_mixcopy, i_swap_mixcopy, i_set_mixcopy, i_copy_mixcopy, MH.seq, listF, tupleF, allF, MF.bools_map, ixD2, dgetD, dkey, eDct, ePs, putDct, keysD, mergeD, putD, valD, gn1, gn0, gn00, gs10, gs01, aI0, aI1, aI2, aI3, ne, q, -neD])).trans ?_
        refine (sSeq_go (h1 := h1.add (.lst [])) (by simp [runD, sSeq, sRet, sIf, sSet, sEx, sSub, sNil, eVar, eC, eOp, eChain, tTruth, tBl, tNotM, tAndM, tOrM, eAndM, eOrM, eNotM, eIfM, aNil, aCons, eTup, eLst, mkLst, mkTup, eCB, eF, eSl, oPart, oNone, eUn, isB, truD, isiF, tyOf, subT, leD, ltD, gtD, geD, cmpD, lenF, lenN, neD, eqD, eqB, ofOpt, MM.keep, Res.bind, Res.toS, ixD, addD, subD, modD, fdivD, intF, List.replicate, setD, negD, mulD, sizeLine, sAsg, asg, asgs, items, sPar, n_add_mix, n_add_scale, n_add_swap, n_add_set, n_add_copy, n_mix_add, n_mix_scale, n_mix_swap, n_mix_set, n_mix_copy, n_scale_add, n_scale_mix, n_scale_swap, n_scale_set, n_scale_copy, n_swap_add, n_swap_mix, n_swap_scale, n_swap_set, n_swap_copy, n_set_add, n_set_mix, n_set_scale, n_set_swap, n_set_copy, n_copy_add, n_copy_mix, n_copy_scale, n_copy_swap, n_copy_set, i_add_addset, i_mix_addset, i_scale_addset, i_swap_addset, i_set_addset, i_copy_addset, i_add_setcopy, i_mix_setcopy, i_scale_setcopy, i_swap_setcopy, i_set_setcopy, i_copy_setcopy, i_add_mixcopy, i_mix_mixcopy, i_scale_mixcopy, i_swap_mixcopy, i_set_mixcopy, i_copy_mixcopy, MH.seq, listF, tupleF, allF, MF.bools_map, ixD2, dgetD, dkey, eDct, ePs, putDct, keysD, mergeD, putD, valD, gn1, gn0, gn00, gs10, gs01, aI0, aI1, aI2, aI3])).trans ?_
        simp [runD, sSeq, sRet, sIf, sSet, sEx, sSub, sNil, eVar, eC, eOp, eChain, tTruth, tBl, tNotM, tAndM, tOrM, eAndM, eOrM, eNotM, eIfM, aNil, aCons, eTup, eLst, mkLst, mkTup, eCB, eF, eSl, oPart, oNone, eUn, isB, truD, isiF, tyOf, subT, leD, ltD, gtD, geD, cmpD, lenF, lenN, neD, eqD, eqB, ofOpt, MM.keep, Res.bind, Res.toS, ixD, addD, subD, modD, fdivD, intF, List.replicate, setD, negD, mulD, sizeLine, sAsg, asg, asgs, items, sPar, n_add_mix, n_add_scale, n_add_swap, n_add_set, n_add_copy, n_mix_add, n_mix_scale, n_mix_swap, n_mix_set, n_mix_copy, n_scale_add, n_scale_mix, n_scale_swap, n_scale_set, n_scale_copy, n_swap_add, n_swap_mix, n_swap_scale, n_swap_set, n_swap_copy, n_set_add, n_set_mix, n_set_scale, n_set_swap, n_set_copy, n_copy_add, n_copy_mix, n_copy_scale, n_copy_swap, n_copy_set, i_add_addset, i_mix_addset, i_scale_addset, i_swap_addset, i_set_addset, i_copy_addset, i_add_setcopy, i_mix_setcopy, i_scale_setcopy, i_swap_setcopy, i_set_setcopy, i_copy_setcopy, i_add_mixcopy, i_mix_mixcopy, i_scale_mixcopy, i_swap_mixcopy, i_set_mixcopy, i_copy_mixcopy, MH.seq, listF, tupleF, allF, MF.bools_map, ixD2, dgetD, dkey, eDct, ePs, putDct, keysD, mergeD, putD, valD, gn1, gn0, gn00, gs10, gs01, aI0, aI1, aI2, aI3, e3]
      · obtain ⟨r, h3, e3, a3, f3⟩ := fin "set" (fun c c0 c1 => .set hi c0 c1) (h1.add (.lst [])) hE
        refine ⟨_, h3, runD_rt ((sSeq_nx s0).trans ?_), a3, f3⟩
        refine (sSeq_skip (h1 := h1) (by simp [runD, sSeq, sRet, sIf, sSet, sEx, sSub, sNil, eVar, eC, eOp, eChain, tTruth, tBl, tNotM, tAndM, tOrM, eAndM, eOrM, eNotM, eIfM, aNil, aCons, eTup, eLst, mkLst, mkTup, eCB, eF, eSl, oPart, oNone, eUn, isB, truD, isiF, tyOf, subT, leD, ltD, gtD, geD, cmpD, lenF, lenN, neD, eqD, eqB, ofOpt, MM.keep, Res.bind, Res.toS, ixD, addD, subD, modD, fdivD, intF, List.replicate, setD, negD, mulD, sizeLine, sAsg, asg, asgs, items, sPar, n_add_mix, n_add_scale, n_add_swap, n_add_set, n_add_copy, n_mix_add, n_mix_scale, n_mix_swap, n_mix_set, n_mix_copy, n_scale_add, n_scale_mix, n_scale_swap, n_scale_set, n_scale_copy, n_swap_add, n_swap_mix, n_swap_scale, n_swap_set, n_swap_copy, n_set_add, n_set_mix, n_set_scale, n_set_swap, n_set_copy, n_copy_add, n_copy_mix, n_copy_scale, n_copy_swap, n_copy_set, i_add_addset, i_mix_addset, i_scale_addset, i_swap_addset, i_set_addset, i_copy_addset, i_add_setcopy, i_mix_setcopy, i_scale_setcopy, i_swap_setcopy, i_set_setcopy, i_copy_setcopy, i_add_mixcopy, i_mix_mixcopy, i_scale_mixcopy, i_swap_mixcopy, i_set_mixcopy, i_copy_mixcopy, MH.seq, listF, tupleF, allF, MF.bools_map, ixD2, dgetD, dkey, eDct, ePs, putDct, keysD, mergeD, putD, valD, gn1, gn0, gn00, gs10, gs01, aI0, aI1, aI2, aI3])).trans ?_
        refine (sSeq_skip (h1 := h1) (by simp [runD, sSeq, sRet, sIf, sSet, sEx, sSub, sNil, eVar, eC, eOp, eChain, tTruth, tBl, tNotM, tAndM, tOrM, eAndM, eOrM, eNotM, eIfM, aNil, aCons, eTup, eLst, mkLst, mkTup, eCB, eF, eSl, oPart, oNone, eUn, isB, truD, isiF, tyOf, subT, leD, ltD, gtD, geD, cmpD, lenF, lenN, neD, eqD, eqB, ofOpt, MM.keep, Res.bind, Res.toS, ixD, addD, subD, modD, fdivD, intF, List.replicate, setD, negD, mulD, sizeLine, sAsg, asg, asgs, items, sPar, n_add_mix, n_add_scale, n_add_swap, n_add_set, n_add_copy, n_mix_add, n_mix_scale, n_mix_swap, n_mix_set, n_mix_copy, n_scale_add, n_scale_mix, n_scale_swap, n_scale_set, n_scale_copy, n_swap_add, n_swap_mix, n_swap_scale, n_swap_set, n_swap_copy, n_set_add, n_set_mix, n_set_scale, n_set_swap, n_set_copy, n_copy_add, n_copy_mix, n_copy_scale, n_copy_swap, n_copy_set, i_add_addset, i_mix_addset, i_scale_addset, i_swap_addset, i_set_addset, i_copy_addset, i_add_setcopy, i_mix_setcopy, i_scale_setcopy, i_swap_setcopy, i_set_setcopy, i_copy_setcopy, i_add_mixcopy, i_mix_mixcopy, i_scale_mixcopy, i_swap_mixcopy, i_set_mixcopy, i_copy_mixcopy, MH.seq, listF, tupleF, allF, MF.bools_map, ixD2, dgetD, dkey, eDct, ePs, putDct, keysD, mergeD, putD, valD, gn1, gn0, gn00, gs10, gs01, aI0, aI1, aI2, aI3])).trans ?_
        refine (sSeq_skip (h1 := h1.add (.lst [])) (by simp [runD, sSeq, sRet, sIf, sSet, sEx, sSub, sNil, eVar, eC, eOp, eChain, tTruth, tBl, tNotM, tAndM, tOrM, eAndM, eOrM, eNotM, eIfM, aNil, aCons, eTup, eLst, mkLst, mkTup, eCB, eF, eSl, oPart, oNone, eUn, isB, truD, isiF, tyOf, subT, leD, ltD, gtD, geD, cmpD, lenF, lenN, neD, eqD, eqB, ofOpt, MM.keep, Res.bind, Res.toS, ixD, addD, subD, modD, fdivD, intF, List.replicate, setD, negD, mulD, sizeLine, sAsg, asg, asgs, items, sPar, n_add_mix, n_add_scale, n_add_swap, n_add_set, n_add_copy, n_mix_add, n_mix_scale, n_mix_swap, n_mix_set, n_mix_copy, n_scale_add, n_scale_mix, n_scale_swap, n_scale_set, n_scale_copy, n_swap_add, n_swap_mix, n_swap_scale, n_swap_set, n_swap_copy, n_set_add, n_set_mix, n_set_scale, n_set_swap, n_set_copy, n_copy_add, n_copy_mix, n_copy_scale, n_copy_swap, n_copy_set, i_add_addset, i_mix_addset, i_scale_addset, i_swap_addset, i_set_addset, i_copy_addset, i_add_setcopy, i_mix_setcopy, i_scale_setcopy, i_swap_setcopy, i_set_setcopy, i_copy_setcopy, i_add_mixcopy, i_mix_mixcopy, i_scale_mixcopy, i_swap_mixcopy, i_set_mixcopy, i_copy_mixcopy, MH.seq, listF, tupleF, allF, MF.bools_map, ixD2, dgetD, dkey, eDct, ePs, putDct, keysD, mergeD, putD, valD, gn1, gn0, gn00, gs10, gs01, aI0, aI1, aI2, aI3, ne, q, -neD])).trans ?_
        refine (sSeq_go (h1 := h1.add (.lst [])) (by simp [runD, sSeq, sRet, sIf, sSet, sEx, sSub, sNil, eVar, eC, eOp, eChain, tTruth, tBl, tNotM, tAndM, tOrM, eAndM, eOrM, eNotM, eIfM, aNil, aCons, eTup, eLst, mkLst, mkTup, eCB, eF, eSl, oPart, oNone, eUn, isB, truD, isiF, tyOf, subT, leD, ltD, gtD, geD, cmpD, lenF, lenN, neD, eqD, eqB, ofOpt, MM.keep, Res.bind, Res.toS, ixD, addD, subD, modD, fdivD, intF, List.replicate, setD, negD, mulD, sizeLine, sAsg, asg, asgs, items, sPar, n_add_mix, n_add_scale, n_add_swap, n_add_set, n_add_copy, n_mix_add, n_mix_scale, n_mix_swap, n_mix_set, n_mix_copy, n_scale_add, n_scale_mix, n_scale_swap, n_scale_set, n_scale_copy, n_swap_add, n_swap_mix, n_swap_scale, n_swap_set, n_swap_copy, n_set_add, n_set_mix, n_set_scale, n_set_swap, n_set_copy, n_copy_add, n_copy_mix, n_copy_scale, n_copy_swap, n_copy_set, i_add_addset, i_mix_addset, i_scale_addset, i_swap_addset, i_set_addset, i_copy_addset, i_add_setcopy, i_mix_setcopy, i_scale_setcopy, i_swap_setcopy, i_set_setcopy, i_copy_setcopy, i_add_mixcopy, i_mix_mixcopy, i_scale_mixcopy, i_swap_mixcopy, i_set_mixcopy, i_copy_mixcopy, MH.seq, listF, tupleF, allF, MF.bools_map, ixD2, dgetD, dkey, eDct, ePs, putDct, keysD, mergeD, putD, valD, gn1, gn0, gn00, gs10, gs01, aI0, aI1, aI2, aI3])).trans ?_
        simp [runD, sSeq, sRet, sIf, sSet, sEx, sSub, sNil, eVar, eC, eOp, eChain, tTruth, tBl, tNotM, tAndM, tOrM, eAndM, eOrM, eNotM, eIfM, aNil, aCons, eTup, eLst, mkLst, mkTup, eCB, eF, eSl, oPart, oNone, eUn, isB, truD, isiF, tyOf, subT, leD, ltD, gtD, geD, cmpD, lenF, lenN, neD, eqD, eqB, ofOpt, MM.keep, Res.bind, Res.toS, ixD, addD, subD, modD, fdivD, intF, List.replicate, setD, negD, mulD, sizeLine, sAsg, asg, asgs, items, sPar, n_add_mix, n_add_scale, n_add_swap, n_add_set, n_add_copy, n_mix_add, n_mix_scale, n_mix_swap, n_mix_set, n_mix_copy, n_scale_add, n_scale_mix, n_scale_swap, n_scale_set, n_scale_copy, n_swap_add, n_swap_mix, n_swap_scale, n_swap_set, n_swap_copy, n_set_add, n_set_mix, n_set_scale, n_set_swap, n_set_copy, n_copy_add, n_copy_mix, n_copy_scale, n_copy_swap, n_copy_set, i_add_addset, i_mix_addset, i_scale_addset, i_swap_addset, i_set_addset, i_copy_addset, i_add_setcopy, i_mix_setcopy, i_scale_setcopy, i_swap_setcopy, i_set_setcopy, i_copy_setcopy, i_add_mixcopy, i_mix_mixcopy, i_scale_mixcopy, i_swap_mixcopy, i_set_mixcopy, i_copy_mixcopy, MH.seq, listF, tupleF, allF, MF.bools_map, ixD2, dgetD, dkey, eDct, ePs, putDct, keysD, mergeD, putD, valD, gn1, gn0, gn00, gs10, gs01, aI0, aI1, aI2, aI3, e3]
  rcases hw with rfl | rfl | rfl | rfl | rfl | rfl | rfl
  · exact plain "add" "" rfl (by simp [runD, sSeq, sRet, sIf, sSet, sEx, sSub, sNil, eVar, eC, eOp, eChain, tTruth, tBl, tNotM, tAndM, tOrM, eAndM, eOrM, eNotM, eIfM, aNil, aCons, eTup, eLst, mkLst, mkTup, eCB, eF, eSl, oPart, oNone, eUn, isB, truD, isiF, tyOf, subT, leD, ltD, gtD, geD, cmpD, lenF, lenN, neD, eqD, eqB, ofOpt, MM.keep, Res.bind, Res.toS, ixD, addD, subD, modD, fdivD, intF, List.replicate, setD, negD, mulD, sizeLine, sAsg, asg, asgs, items, sPar, n_add_mix, n_add_scale, n_add_swap, n_add_set, n_add_copy, n_mix_add, n_mix_scale, n_mix_swap, n_mix_set, n_mix_copy, n_scale_add, n_scale_mix, n_scale_swap, n_scale_set, n_scale_copy, n_swap_add, n_swap_mix, n_swap_scale, n_swap_set, n_swap_copy, n_set_add, n_set_mix, n_set_scale, n_set_swap, n_set_copy, n_copy_add, n_copy_mix, n_copy_scale, n_copy_swap, n_copy_set, i_add_addset, i_mix_addset, i_scale_addset, i_swap_addset, i_set_addset, i_copy_addset, i_add_setcopy, i_mix_setcopy, i_scale_setcopy, i_swap_setcopy, i_set_setcopy, i_copy_setcopy, i_add_mixcopy, i_mix_mixcopy, i_scale_mixcopy, i_swap_mixcopy, i_set_mixcopy, i_copy_mixcopy, MH.seq, listF, tupleF, allF, MF.bools_map, ixD2, dgetD, dkey, eDct, ePs, putDct, keysD, mergeD, putD, valD, gn1, gn0, gn00, gs10, gs01, aI0, aI1, aI2, aI3]) fun c c0 c1 => .add hi c0 c1
  · exact mixed "mix" rfl (.inl rfl)
  · exact mixed "mix" rfl (.inl rfl)
  · have fU : Fd i h ((hU h1).add (.lst [.int 1])) := (hU_fd f1).add _
    obtain ⟨r, xs, e2, r1, r2, gr, x0, x1, x2⟩ := unit (h := h1) b (env := [some (.ref i), some (.tup (bs.map .int)), some (.str (Str.ofString "scale")), some (.int index), some (.int (at_ bs index)), some (.ref h.n), some (.ref h1.n), none, none]) rfl rfl
    obtain ⟨x, h3, m3, e3, f3, n3⟩ := pick fU.lt fU.fd gr (by have := f1.lt; omega) (by show r < h1.n + 5; omega) x0 x1
    obtain ⟨c, rfl, c0, c1⟩ := x2 x m3
    refine ⟨[.str (Str.ofString "scale"), .int index, .int c], h3, runD_rt ((sSeq_nx s0).trans ?_), .scale hi c0 c1, fU.trans f3⟩
    refine (sSeq_go (h1 := h1) (by simp [runD, sSeq, sRet, sIf, sSet, sEx, sSub, sNil, eVar, eC, eOp, eChain, tTruth, tBl, tNotM, tAndM, tOrM, eAndM, eOrM, eNotM, eIfM, aNil, aCons, eTup, eLst, mkLst, mkTup, eCB, eF, eSl, oPart, oNone, eUn, isB, truD, isiF, tyOf, subT, leD, ltD, gtD, geD, cmpD, lenF, lenN, neD, eqD, eqB, ofOpt, MM.keep, Res.bind, Res.toS, ixD, addD, subD, modD, fdivD, intF, List.replicate, setD, negD, mulD, sizeLine, sAsg, asg, asgs, items, sPar, n_add_mix, n_add_scale, n_add_swap, n_add_set, n_add_copy, n_mix_add, n_mix_scale, n_mix_swap, n_mix_set, n_mix_copy, n_scale_add, n_scale_mix, n_scale_swap, n_scale_set, n_scale_copy, n_swap_add, n_swap_mix, n_swap_scale, n_swap_set, n_swap_copy, n_set_add, n_set_mix, n_set_scale, n_set_swap, n_set_copy, n_copy_add, n_copy_mix, n_copy_scale, n_copy_swap, n_copy_set, i_add_addset, i_mix_addset, i_scale_addset, i_swap_addset, i_set_addset, i_copy_addset, i_add_setcopy, i_mix_setcopy, i_scale_setcopy, i_swap_setcopy, i_set_setcopy, i_copy_setcopy, i_add_mixcopy, i_mix_mixcopy, i_scale_mixcopy, i_swap_mixcopy, i_set_mixcopy, i_copy_mixcopy, MH.seq, listF, tupleF, allF, MF.bools_map, ixD2, dgetD, dkey, eDct, ePs, putDct, keysD, mergeD, putD, valD, gn1, gn0, gn00, gs10, gs01, aI0, aI1, aI2, aI3])).trans (sSeq_rt ?_)
    have d := dU_ok [some (.ref i), some (.tup (bs.map .int)), some (.str (Str.ofString "scale")), some (.int index), some (.int (at_ bs index)), some (.ref h.n), none, none, none] h1
    unfold dU at d
    refine (sSeq_nx (e := [some (.ref i), some (.tup (bs.map .int)), some (.str (Str.ofString "scale")), some (.int index), some (.int (at_ bs index)), some (.ref h.n), some (.ref h1.n), none, none]) (h1 := hU h1) (by unfold sSet; rw [d]; rfl)).trans ?_
    simp [runD, sSeq, sRet, sIf, sSet, sEx, sSub, sNil, eVar, eC, eOp, eChain, tTruth, tBl, tNotM, tAndM, tOrM, eAndM, eOrM, eNotM, eIfM, aNil, aCons, eTup, eLst, mkLst, mkTup, eCB, eF, eSl, oPart, oNone, eUn, isB, truD, isiF, tyOf, subT, leD, ltD, gtD, geD, cmpD, lenF, lenN, neD, eqD, eqB, ofOpt, MM.keep, Res.bind, Res.toS, ixD, addD, subD, modD, fdivD, intF, List.replicate, setD, negD, mulD, sizeLine, sAsg, asg, asgs, items, sPar, n_add_mix, n_add_scale, n_add_swap, n_add_set, n_add_copy, n_mix_add, n_mix_scale, n_mix_swap, n_mix_set, n_mix_copy, n_scale_add, n_scale_mix, n_scale_swap, n_scale_set, n_scale_copy, n_swap_add, n_swap_mix, n_swap_scale, n_swap_set, n_swap_copy, n_set_add, n_set_mix, n_set_scale, n_set_swap, n_set_copy, n_copy_add, n_copy_mix, n_copy_scale, n_copy_swap, n_copy_set, i_add_addset, i_mix_addset, i_scale_addset, i_swap_addset, i_set_addset, i_copy_addset, i_add_setcopy, i_mix_setcopy, i_scale_setcopy, i_swap_setcopy, i_set_setcopy, i_copy_setcopy, i_add_mixcopy, i_mix_mixcopy, i_scale_mixcopy, i_swap_mixcopy, i_set_mixcopy, i_copy_mixcopy, MH.seq, listF, tupleF, allF, MF.bools_map, ixD2, dgetD, dkey, eDct, ePs, putDct, keysD, mergeD, putD, valD, gn1, gn0, gn00, gs10, gs01, aI0, aI1, aI2, aI3, e2, e3]
  · obtain ⟨o2, h2, e2, x2, n2, g2, l2, m2⟩ := listC (r := h.n) (n := 0) (s := 8) (tt := tBl (eOp eqD (eOp ixD (eVar 1) (eVar 8)) (eVar 4))) (env := [some (.ref i), some (.tup (bs.map .int)), some (.str (Str.ofString "swap")), some (.int index), some (.int (at_ bs index)), some (.ref h.n), none, none, none]) (ns := os)
      (by omega) (by simp [runD, sSeq, sRet, sIf, sSet, sEx, sSub, sNil, eVar, eC, eOp, eChain, tTruth, tBl, tNotM, tAndM, tOrM, eAndM, eOrM, eNotM, eIfM, aNil, aCons, eTup, eLst, mkLst, mkTup, eCB, eF, eSl, oPart, oNone, eUn, isB, truD, isiF, tyOf, subT, leD, ltD, gtD, geD, cmpD, lenF, lenN, neD, eqD, eqB, ofOpt, MM.keep, Res.bind, Res.toS, ixD, addD, subD, modD, fdivD, intF, List.replicate, setD, negD, mulD, sizeLine, sAsg, asg, asgs, items, sPar, n_add_mix, n_add_scale, n_add_swap, n_add_set, n_add_copy, n_mix_add, n_mix_scale, n_mix_swap, n_mix_set, n_mix_copy, n_scale_add, n_scale_mix, n_scale_swap, n_scale_set, n_scale_copy, n_swap_add, n_swap_mix, n_swap_scale, n_swap_set, n_swap_copy, n_set_add, n_set_mix, n_set_scale, n_set_swap, n_set_copy, n_copy_add, n_copy_mix, n_copy_scale, n_copy_swap, n_copy_set, i_add_addset, i_mix_addset, i_scale_addset, i_swap_addset, i_set_addset, i_copy_addset, i_add_setcopy, i_mix_setcopy, i_scale_setcopy, i_swap_setcopy, i_set_setcopy, i_copy_setcopy, i_add_mixcopy, i_mix_mixcopy, i_scale_mixcopy, i_swap_mixcopy, i_set_mixcopy, i_copy_mixcopy, MH.seq, listF, tupleF, allF, MF.bools_map, ixD2, dgetD, dkey, eDct, ePs, putDct, keysD, mergeD, putD, valD, gn1, gn0, gn00, gs10, gs01, aI0, aI1, aI2, aI3]) rfl (fun k => at_ bs k.toNat == at_ bs index) h1 g1 (by omega) (fun k h' hk _ => by
        obtain ⟨k0, k1⟩ := m1 k hk
        obtain ⟨j, rfl⟩ := Int.eq_ofNat_of_zero_le k0
        have xj := ix_at (ds := bs) (k := j) (by omega)
        simp [runD, sSeq, sRet, sIf, sSet, sEx, sSub, sNil, eVar, eC, eOp, eChain, tTruth, tBl, tNotM, tAndM, tOrM, eAndM, eOrM, eNotM, eIfM, aNil, aCons, eTup, eLst, mkLst, mkTup, eCB, eF, eSl, oPart, oNone, eUn, isB, truD, isiF, tyOf, subT, leD, ltD, gtD, geD, cmpD, lenF, lenN, neD, eqD, eqB, ofOpt, MM.keep, Res.bind, Res.toS, ixD, addD, subD, modD, fdivD, intF, List.replicate, setD, negD, mulD, sizeLine, sAsg, asg, asgs, items, sPar, n_add_mix, n_add_scale, n_add_swap, n_add_set, n_add_copy, n_mix_add, n_mix_scale, n_mix_swap, n_mix_set, n_mix_copy, n_scale_add, n_scale_mix, n_scale_swap, n_scale_set, n_scale_copy, n_swap_add, n_swap_mix, n_swap_scale, n_swap_set, n_swap_copy, n_set_add, n_set_mix, n_set_scale, n_set_swap, n_set_copy, n_copy_add, n_copy_mix, n_copy_scale, n_copy_swap, n_copy_set, i_add_addset, i_mix_addset, i_scale_addset, i_swap_addset, i_set_addset, i_copy_addset, i_add_setcopy, i_mix_setcopy, i_scale_setcopy, i_swap_setcopy, i_set_setcopy, i_copy_setcopy, i_add_mixcopy, i_mix_mixcopy, i_scale_mixcopy, i_swap_mixcopy, i_set_mixcopy, i_copy_mixcopy, MH.seq, listF, tupleF, allF, MF.bools_map, ixD2, dgetD, dkey, eDct, ePs, putDct, keysD, mergeD, putD, valD, gn1, gn0, gn00, gs10, gs01, aI0, aI1, aI2, aI3, xj])
    have f2 : Fd i h h2 := Ext.fd f1 x2
    have eL : eLc (iSeq (eVar 5)) (.nm 8) (tBl (eOp eqD (eOp ixD (eVar 1) (eVar 8)) (eVar 4))) (eVar 8) [8] [some (.ref i), some (.tup (bs.map .int)), some (.str (Str.ofString "swap")), some (.int index), some (.int (at_ bs index)), some (.ref h.n), none, none, none] h1 = .ok (.ref h1.n) h2 := by
      refine eLc_of (it := .lst h.n os.length) ?_ e2
      have sq := MH.seq_lst g1
      simp only [iSeq, eVar, List.getElem?_cons_succ, List.getElem?_cons_zero, Res.bind, sq, List.length_map]
    have hE2 : Fd i h (h2.add (.lst [])) := f2.add _
    have gE2 : (h2.add (.lst [])).get h1.n = some (.lst (o2.map .int)) := by rw [MH.get_add_ne _ _ (by omega)]; exact g2
    have ne2 := neNil gE2 (MH.get_add_same h2 (.lst []))
    have s2 : sSet 5 (eLc (iSeq (eVar 5)) (.nm 8) (tBl (eOp eqD (eOp ixD (eVar 1) (eVar 8)) (eVar 4))) (eVar 8) [8]) [some (.ref i), some (.tup (bs.map .int)), some (.str (Str.ofString "swap")), some (.int index), some (.int (at_ bs index)), some (.ref h.n), none, none, none] h1 =
        .nx [some (.ref i), some (.tup (bs.map .int)), some (.str (Str.ofString "swap")), some (.int index), some (.int (at_ bs index)), some (.ref h1.n), none, none, none] h2 := by unfold sSet; rw [eL]; rfl
    cases q : o2.isEmpty with
    | true =>
      refine ⟨[.str (Str.ofString "add"), .int index, .int 1], h2.add (.lst []), runD_rt ((sSeq_nx s0).trans ?_), .add hi (by decide) (by decide), hE2⟩
      refine (sSeq_skip (h1 := h1) (by simp [runD, sSeq, sRet, sIf, sSet, sEx, sSub, sNil, eVar, eC, eOp, eChain, tTruth, tBl, tNotM, tAndM, tOrM, eAndM, eOrM, eNotM, eIfM, aNil, aCons, eTup, eLst, mkLst, mkTup, eCB, eF, eSl, oPart, oNone, eUn, isB, truD, isiF, tyOf, subT, leD, ltD, gtD, geD, cmpD, lenF, lenN, neD, eqD, eqB, ofOpt, MM.keep, Res.bind, Res.toS, ixD, addD, subD, modD, fdivD, intF, List.replicate, setD, negD, mulD, sizeLine, sAsg, asg, asgs, items, sPar, n_add_mix, n_add_scale, n_add_swap, n_add_set, n_add_copy, n_mix_add, n_mix_scale, n_mix_swap, n_mix_set, n_mix_copy, n_scale_add, n_scale_mix, n_scale_swap, n_scale_set, n_scale_copy, n_swap_add, n_swap_mix, n_swap_scale, n_swap_set, n_swap_copy, n_set_add, n_set_mix, n_set_scale, n_set_swap, n_set_copy, n_copy_add, n_copy_mix, n_copy_scale, n_copy_swap, n_copy_set, i_add_addset, i_mix_addset, i_scale_addset, i_swap_addset, i_set_addset, i_copy_addset, i_add_setcopy, i_mix_setcopy, i_scale_setcopy, i_swap_setcopy, i_set_setcopy, i_copy_setcopy, i_add_mixcopy, i_mix_mixcopy, i_scale_mixcopy, i_swap_mixcopy, i_set_mixcopy, i_copy_mixcopy, MH.seq, listF, tupleF, allF, MF.bools_map, ixD2, dgetD, dkey, eDct, ePs, putDct, keysD, mergeD, putD, valD, gn1, gn0, gn00, gs10, gs01, aI0, aI1, aI2, aI3])).trans ?_
      refine (sSeq_go (h1 := h1) (by simp [runD, sSeq, sRet, sIf, sSet, sEx, sSub, sNil, eVar, eC, eOp, eChain, tTruth, tBl, tNotM, tAndM, tOrM, eAndM, eOrM, eNotM, eIfM, aNil, aCons, eTup, eLst, mkLst, mkTup, eCB, eF, eSl, oPart, oNone, eUn, isB, truD, isiF, tyOf, subT, leD, ltD, gtD, geD, cmpD, lenF, lenN, neD, eqD, eqB, ofOpt, MM.keep, Res.bind, Res.toS, ixD, addD, subD, modD, fdivD, intF, List.replicate, setD, negD, mulD, sizeLine, sAsg, asg, asgs, items, sPar, n_add_mix, n_add_scale, n_add_swap, n_add_set, n_add_copy, n_mix_add, n_mix_scale, n_mix_swap, n_mix_set, n_mix_copy, n_scale_add, n_scale_mix, n_scale_swap, n_scale_set, n_scale_copy, n_swap_add, n_swap_mix, n_swap_scale, n_swap_set, n_swap_copy, n_set_add, n_set_mix, n_set_scale, n_set_swap, n_set_copy, n_copy_add, n_copy_mix, n_copy_scale, n_copy_swap, n_copy_set, i_add_addset, i_mix_addset, i_scale_addset, i_swap_addset, i_set_addset, i_copy_addset, i_add_setcopy, i_mix_setcopy, i_scale_setcopy, i_swap_setcopy, i_set_setcopy, i_copy_setcopy, i_add_mixcopy, i_mix_mixcopy, i_scale_mixcopy, i_swap_mixcopy, i_set_mixcopy, i_copy_mixcopy, MH.seq, listF, tupleF, allF, MF.bools_map, ixD2, dgetD, dkey, eDct, ePs, putDct, keysD, mergeD, putD, valD, gn1, gn0, gn00, gs10, gs01, aI0, aI1, aI2, aI3])).trans (sSeq_rt ?_)
      refine (sSeq_nx s2).trans ?_
      simp [runD, sSeq, sRet, sIf, sSet, sEx, sSub, sNil, eVar, eC, eOp, eChain, tTruth, tBl, tNotM, tAndM, tOrM, eAndM, eOrM, eNotM, eIfM, aNil, aCons, eTup, eLst, mkLst, mkTup, eCB, eF, eSl, oPart, oNone, eUn, isB, truD, isiF, tyOf, subT, leD, ltD, gtD, geD, cmpD, lenF, lenN, neD, eqD, eqB, ofOpt, MM.keep, Res.bind, Res.toS, ixD, addD, subD, modD, fdivD, intF, List.replicate, setD, negD, mulD, sizeLine, sAsg, asg, asgs, items, sPar, n_add_mix, n_add_scale, n_add_swap, n_add_set, n_add_copy, n_mix_add, n_mix_scale, n_mix_swap, n_mix_set, n_mix_copy, n_scale_add, n_scale_mix, n_scale_swap, n_scale_set, n_scale_copy, n_swap_add, n_swap_mix, n_swap_scale, n_swap_set, n_swap_copy, n_set_add, n_set_mix, n_set_scale, n_set_swap, n_set_copy, n_copy_add, n_copy_mix, n_copy_scale, n_copy_swap, n_copy_set, i_add_addset, i_mix_addset, i_scale_addset, i_swap_addset, i_set_addset, i_copy_addset, i_add_setcopy, i_mix_setcopy, i_scale_setcopy, i_swap_setcopy, i_set_setcopy, i_copy_setcopy, i_add_mixcopy, i_mix_mixcopy, i_scale_mixcopy, i_swap_mixcopy, i_set_mixcopy, i_copy_mixcopy, MH.seq, listF, tupleF, allF, MF.bools_map, ixD2, dgetD, dkey, eDct, ePs, putDct, keysD, mergeD, putD, valD, gn1, gn0, gn00, gs10, gs01, aI0, aI1, aI2, aI3, ne2, q, -neD]
    | false =>
      have nz : o2.map D.int ≠ [] := by
        intro e
        have : o2 = [] := List.map_eq_nil_iff.mp e
        rw [this] at q; cases q
      have lt1 := f1.lt
      obtain ⟨x, h3, m3, e3, f3, n3⟩ := pick hE2.lt hE2.fd gE2 (by omega) (by simp [runD, sSeq, sRet, sIf, sSet, sEx, sSub, sNil, eVar, eC, eOp, eChain, tTruth, tBl, tNotM, tAndM, tOrM, eAndM, eOrM, eNotM, eIfM, aNil, aCons, eTup, eLst, mkLst, mkTup, eCB, eF, eSl, oPart, oNone, eUn, isB, truD, isiF, tyOf, subT, leD, ltD, gtD, geD, cmpD, lenF, lenN, neD, eqD, eqB, ofOpt, MM.keep, Res.bind, Res.toS, ixD, addD, subD, modD, fdivD, intF, List.replicate, setD, negD, mulD, sizeLine, sAsg, asg, asgs, items, sPar, n_add_mix, n_add_scale, n_add_swap, n_add_set, n_add_copy, n_mix_add, n_mix_scale, n_mix_swap, n_mix_set, n_mix_copy, n_scale_add, n_scale_mix, n_scale_swap, n_scale_set, n_scale_copy, n_swap_add, n_swap_mix, n_swap_scale, n_swap_set, n_swap_copy, n_set_add, n_set_mix, n_set_scale, n_set_swap, n_set_copy, n_copy_add, n_copy_mix, n_copy_scale, n_copy_swap, n_copy_set, i_add_addset, i_mix_addset, i_scale_addset, i_swap_addset, i_set_addset, i_copy_addset, i_add_setcopy, i_mix_setcopy, i_scale_setcopy, i_swap_setcopy, i_set_setcopy, i_copy_setcopy, i_add_mixcopy, i_mix_mixcopy, i_scale_mixcopy, i_swap_mixcopy, i_set_mixcopy, i_copy_mixcopy, MH.seq, listF, tupleF, allF, MF.bools_map, ixD2, dgetD, dkey, eDct, ePs, putDct, keysD, mergeD, putD, valD, gn1, gn0, gn00, gs10, gs01, aI0, aI1, aI2, aI3]; omega) nz (by simp [runD, sSeq, sRet, sIf, sSet, sEx, sSub, sNil, eVar, eC, eOp, eChain, tTruth, tBl, tNotM, tAndM, tOrM, eAndM, eOrM, eNotM, eIfM, aNil, aCons, eTup, eLst, mkLst, mkTup, eCB, eF, eSl, oPart, oNone, eUn, isB, truD, isiF, tyOf, subT, leD, ltD, gtD, geD, cmpD, lenF, lenN, neD, eqD, eqB, ofOpt, MM.keep, Res.bind, Res.toS, ixD, addD, subD, modD, fdivD, intF, List.replicate, setD, negD, mulD, sizeLine, sAsg, asg, asgs, items, sPar, n_add_mix, n_add_scale, n_add_swap, n_add_set, n_add_copy, n_mix_add, n_mix_scale, n_mix_swap, n_mix_set, n_mix_copy, n_scale_add, n_scale_mix, n_scale_swap, n_scale_set, n_scale_copy, n_swap_add, n_swap_mix, n_swap_scale, n_swap_set, n_swap_copy, n_set_add, n_set_mix, n_set_scale, n_set_swap, n_set_copy, n_copy_add, n_copy_mix, n_copy_scale, n_copy_swap, n_copy_set, i_add_addset, i_mix_addset, i_scale_addset, i_swap_addset, i_set_addset, i_copy_addset, i_add_setcopy, i_mix_setcopy, i_scale_setcopy, i_swap_setcopy, i_set_setcopy, i_copy_setcopy, i_add_mixcopy, i_mix_mixcopy, i_scale_mixcopy, i_swap_mixcopy, i_set_mixcopy, i_copy_mixcopy, MH.seq, listF, tupleF, allF, MF.bools_map, ixD2, dgetD, dkey, eDct, ePs, putDct, keysD, mergeD, putD, valD, gn1, gn0, gn00, gs10, gs01, aI0, aI1, aI2, aI3]; omega)
      obtain ⟨o, ho, rfl⟩ := List.mem_map.mp m3
      obtain ⟨p1, p2⟩ := m2 o ho
      obtain ⟨o0, o1⟩ := m1 o p1
      obtain ⟨j, rfl⟩ := Int.eq_ofNat_of_zero_le o0
      have eqb : at_ bs index = at_ bs j := by simpa [runD, sSeq, sRet, sIf, sSet, sEx, sSub, sNil, eVar, eC, eOp, eChain, tTruth, tBl, tNotM, tAndM, tOrM, eAndM, eOrM, eNotM, eIfM, aNil, aCons, eTup, eLst, mkLst, mkTup, eCB, eF, eSl, oPart, oNone, eUn, isB, truD, isiF, tyOf, subT, leD, ltD, gtD, geD, cmpD, lenF, lenN, neD, eqD, eqB, ofOpt, MM.keep, Res.bind, Res.toS, ixD, addD, subD, modD, fdivD, intF, List.replicate, setD, negD, mulD, sizeLine, sAsg, asg, asgs, items, sPar, n_add_mix, n_add_scale, n_add_swap, n_add_set, n_add_copy, n_mix_add, n_mix_scale, n_mix_swap, n_mix_set, n_mix_copy, n_scale_add, n_scale_mix, n_scale_swap, n_scale_set, n_scale_copy, n_swap_add, n_swap_mix, n_swap_scale, n_swap_set, n_swap_copy, n_set_add, n_set_mix, n_set_scale, n_set_swap, n_set_copy, n_copy_add, n_copy_mix, n_copy_scale, n_copy_swap, n_copy_set, i_add_addset, i_mix_addset, i_scale_addset, i_swap_addset, i_set_addset, i_copy_addset, i_add_setcopy, i_mix_setcopy, i_scale_setcopy, i_swap_setcopy, i_set_setcopy, i_copy_setcopy, i_add_mixcopy, i_mix_mixcopy, i_scale_mixcopy, i_swap_mixcopy, i_set_mixcopy, i_copy_mixcopy, MH.seq, listF, tupleF, allF, MF.bools_map, ixD2, dgetD, dkey, eDct, ePs, putDct, keysD, mergeD, putD, valD, gn1, gn0, gn00, gs10, gs01, aI0, aI1, aI2, aI3] using (eq_of_beq p2).symm
      refine ⟨[.str (Str.ofString "swap"), .int index, .int j], h3, runD_rt ((sSeq_nx s0).trans ?_), .swap hi (by omega) eqb, hE2.trans f3⟩
      refine (sSeq_skip (h1 := h1) (by simp [runD, sSeq, sRet, sIf, sSet, sEx, sSub, sNil, eVar, eC, eOp, eChain, tTruth, tBl, tNotM, tAndM, tOrM, eAndM, eOrM, eNotM, eIfM, aNil, aCons, eTup, eLst, mkLst, mkTup, eCB, eF, eSl, oPart, oNone, eUn, isB, truD, isiF, tyOf, subT, leD, ltD, gtD, geD, cmpD, lenF, lenN, neD, eqD, eqB, ofOpt, MM.keep, Res.bind, Res.toS, ixD, addD, subD, modD, fdivD, intF, List.replicate, setD, negD, mulD, sizeLine, sAsg, asg, asgs, items, sPar, n_add_mix, n_add_scale, n_add_swap, n_add_set, n_add_copy, n_mix_add, n_mix_scale, n_mix_swap, n_mix_set, n_mix_copy, n_scale_add, n_scale_mix, n_scale_swap, n_scale_set, n_scale_copy, n_swap_add, n_swap_mix, n_swap_scale, n_swap_set, n_swap_copy, n_set_add, n_set_mix, n_set_scale, n_set_swap, n_set_copy, n_copy_add, n_copy_mix, n_copy_scale, n_copy_swap, n_copy_set, i_add_addset, i_mix_addset, i_scale_addset, i_swap_addset, i_set_addset, i_copy_addset, i_add_setcopy, i_mix_setcopy, i_scale_setcopy, i_swap_setcopy, i_set_setcopy, i_copy_setcopy, i_add_mixcopy, i_mix_mixcopy, i_scale_mixcopy, i_swap_mixcopy, i_set_mixcopy, i_copy_mixcopy, MH.seq, listF, tupleF, allF, MF.bools_map, ixD2, dgetD, dkey, eDct, ePs, putDct, keysD, mergeD, putD, valD, gn1, gn0, gn00, gs10, gs01, aI0, aI1, aI2, aI3])).trans ?_
      refine (sSeq_go (h1 := h1) (by simp [runD, sSeq, sRet, sIf, sSet, sEx, sSub, sNil, eVar, eC, eOp, eChain, tTruth, tBl, tNotM, tAndM, tOrM, eAndM, eOrM, eNotM, eIfM, aNil, aCons, eTup, eLst, mkLst, mkTup, eCB, eF, eSl, oPart, oNone, eUn, isB, truD, isiF, tyOf, subT, leD, ltD, gtD, geD, cmpD, lenF, lenN, neD, eqD, eqB, ofOpt, MM.keep, Res.bind, Res.toS, ixD, addD, subD, modD, fdivD, intF, List.replicate, setD, negD, mulD, sizeLine, sAsg, asg, asgs, items, sPar, n_add_mix, n_add_scale, n_add_swap, n_add_set, n_add_copy, n_mix_add, n_mix_scale, n_mix_swap, n_mix_set, n_mix_copy, n_scale_add, n_scale_mix, n_scale_swap, n_scale_set, n_scale_copy, n_swap_add, n_swap_mix, n_swap_scale, n_swap_set, n_swap_copy, n_set_add, n_set_mix, n_set_scale, n_set_swap, n_set_copy, n_copy_add, n_copy_mix, n_copy_scale, n_copy_swap, n_copy_set, i_add_addset, i_mix_addset, i_scale_addset, i_swap_addset, i_set_addset, i_copy_addset, i_add_setcopy, i_mix_setcopy, i_scale_setcopy, i_swap_setcopy, i_set_setcopy, i_copy_setcopy, i_add_mixcopy, i_mix_mixcopy, i_scale_mixcopy, i_swap_mixcopy, i_set_mixcopy, i_copy_mixcopy, MH.seq, listF, tupleF, allF, MF.bools_map, ixD2, dgetD, dkey, eDct, ePs, putDct, keysD, mergeD, putD, valD, gn1, gn0, gn00, gs10, gs01, aI0, aI1, aI2, aI3])).trans (sSeq_rt ?_)
      refine (sSeq_nx s2).trans ?_
      simp [runD, sSeq, sRet, sIf, sSet, sEx, sSub, sNil, eVar, eC, eOp, eChain, tTruth, tBl, tNotM, tAndM, tOrM, eAndM, eOrM, eNotM, eIfM, aNil, aCons, eTup, eLst, mkLst, mkTup, eCB, eF, eSl, oPart, oNone, eUn, isB, truD, isiF, tyOf, subT, leD, ltD, gtD, geD, cmpD, lenF, lenN, neD, eqD, eqB, ofOpt, MM.keep, Res.bind, Res.toS, ixD, addD, subD, modD, fdivD, intF, List.replicate, setD, negD, mulD, sizeLine, sAsg, asg, asgs, items, sPar, n_add_mix, n_add_scale, n_add_swap, n_add_set, n_add_copy, n_mix_add, n_mix_scale, n_mix_swap, n_mix_set, n_mix_copy, n_scale_add, n_scale_mix, n_scale_swap, n_scale_set, n_scale_copy, n_swap_add, n_swap_mix, n_swap_scale, n_swap_set, n_swap_copy, n_set_add, n_set_mix, n_set_scale, n_set_swap, n_set_copy, n_copy_add, n_copy_mix, n_copy_scale, n_copy_swap, n_copy_set, i_add_addset, i_mix_addset, i_scale_addset, i_swap_addset, i_set_addset, i_copy_addset, i_add_setcopy, i_mix_setcopy, i_scale_setcopy, i_swap_setcopy, i_set_setcopy, i_copy_setcopy, i_add_mixcopy, i_mix_mixcopy, i_scale_mixcopy, i_swap_mixcopy, i_set_mixcopy, i_copy_mixcopy, MH.seq, listF, tupleF, allF, MF.bools_map, ixD2, dgetD, dkey, eDct, ePs, putDct, keysD, mergeD, putD, valD, gn1, gn0, gn00, gs10, gs01, aI0, aI1, aI2, aI3, ne2, q, e3, -neD]
  · exact plain "set" "" rfl (by simp [runD, sSeq, sRet, sIf, sSet, sEx, sSub, sNil, eVar, eC, eOp, eChain, tTruth, tBl, tNotM, tAndM, tOrM, eAndM, eOrM, eNotM, eIfM, aNil, aCons, eTup, eLst, mkLst, mkTup, eCB, eF, eSl, oPart, oNone, eUn, isB, truD, isiF, tyOf, subT, leD, ltD, gtD, geD, cmpD, lenF, lenN, neD, eqD, eqB, ofOpt, MM.keep, Res.bind, Res.toS, ixD, addD, subD, modD, fdivD, intF, List.replicate, setD, negD, mulD, sizeLine, sAsg, asg, asgs, items, sPar, n_add_mix, n_add_scale, n_add_swap, n_add_set, n_add_copy, n_mix_add, n_mix_scale, n_mix_swap, n_mix_set, n_mix_copy, n_scale_add, n_scale_mix, n_scale_swap, n_scale_set, n_scale_copy, n_swap_add, n_swap_mix, n_swap_scale, n_swap_set, n_swap_copy, n_set_add, n_set_mix, n_set_scale, n_set_swap, n_set_copy, n_copy_add, n_copy_mix, n_copy_scale, n_copy_swap, n_copy_set, i_add_addset, i_mix_addset, i_scale_addset, i_swap_addset, i_set_addset, i_copy_addset, i_add_setcopy, i_mix_setcopy, i_scale_setcopy, i_swap_setcopy, i_set_setcopy, i_copy_setcopy, i_add_mixcopy, i_mix_mixcopy, i_scale_mixcopy, i_swap_mixcopy, i_set_mixcopy, i_copy_mixcopy, MH.seq, listF, tupleF, allF, MF.bools_map, ixD2, dgetD, dkey, eDct, ePs, putDct, keysD, mergeD, putD, valD, gn1, gn0, gn00, gs10, gs01, aI0, aI1, aI2, aI3]) fun c c0 c1 => .set hi c0 c1
  · exact mixed "copy" rfl (.inr rfl)
end K03

set_option Elab.async false
set_option linter.all false
set_option maxRecDepth 100000
set_option maxHeartbeats 4000000
set_option autoImplicit false
namespace K03
open PySem PySem.Spec PyProof.Rows L2 MM

theorem mem_isort {α : Type} {le : α → α → Bool} {z : α} : ∀ {l : List α}, z ∈ isort le l → z ∈ l
  | [], h => h
  | x :: xs, h => by
    rcases mem_ins h with q | q
    · rw [q]; exact List.mem_cons_self
    · exact List.mem_cons_of_mem _ (mem_isort q)
theorem len_ins {α : Type} {le : α → α → Bool} {x : α} : ∀ {l : List α}, (ins le x l).length = l.length + 1
  | [] => rfl
  | y :: ys => by
    unfold ins
    split
    · rfl
    · simp [runD, sSeq, sRet, sIf, sSet, sEx, sSub, sNil, eVar, eC, eOp, eChain, tTruth, tBl, tNotM, tAndM, tOrM, eAndM, eOrM, eNotM, eIfM, aNil, aCons, eTup, eLst, mkLst, mkTup, eCB, eF, eSl, oPart, oNone, eUn, isB, truD, isiF, tyOf, subT, leD, ltD, gtD, geD, cmpD, lenF, lenN, neD, eqD, eqB, ofOpt, MM.keep, Res.bind, Res.toS, ixD, addD, subD, modD, fdivD, intF, List.replicate, setD, negD, mulD, sizeLine, sAsg, asg, asgs, items, sPar, n_add_mix, n_add_scale, n_add_swap, n_add_set, n_add_copy, n_mix_add, n_mix_scale, n_mix_swap, n_mix_set, n_mix_copy, n_scale_add, n_scale_mix, n_scale_swap, n_scale_set, n_scale_copy, n_swap_add, n_swap_mix, n_swap_scale, n_swap_set, n_swap_copy, n_set_add, n_set_mix, n_set_scale, n_set_swap, n_set_copy, n_copy_add, n_copy_mix, n_copy_scale, n_copy_swap, n_copy_set, i_add_addset, i_mix_addset, i_scale_addset, i_swap_addset, i_set_addset, i_copy_addset, i_add_setcopy, i_mix_setcopy, i_scale_setcopy, i_swap_setcopy, i_set_setcopy, i_copy_setcopy, i_add_mixcopy, i_mix_mixcopy, i_scale_mixcopy, i_swap_mixcopy, i_set_mixcopy, i_copy_mixcopy, MH.seq, listF, tupleF, allF, MF.bools_map, ixD2, dgetD, dkey, eDct, ePs, putDct, keysD, mergeD, putD, valD, gn1, gn0, gn00, gs10, gs01, aI0, aI1, aI2, aI3, len_ins]
theorem len_isort {α : Type} {le : α → α → Bool} : ∀ {l : List α}, (isort le l).length = l.length
  | [] => rfl
  | x :: xs => by rw [isort, len_ins, len_isort]; rfl
def pD (cs : List (Nat × Int)) : List PyData := cs.map fun p => .tuple [.int p.1, .int p.2]
theorem snap_cD (h : MH) (g : Nat) (cs : List (Nat × Int)) : snaps (snap h (g + 2)) (cD cs) = some (pD cs) := by
  induction cs with
  | nil => rfl
  | cons p cs ih =>
    have : snap h (g + 2) (.tup [.int p.1, .int p.2]) = some (.tuple [.int p.1, .int p.2]) := rfl
    show snaps (snap h (g + 2)) (.tup [.int p.1, .int p.2] :: cD cs) = _
    simp only [snaps, this, ih]
    rfl
theorem back {cs : List (Nat × Int)} : ∀ {xs : List D}, (∀ x ∈ xs, x ∈ cD cs) → ∃ cs', xs = cD cs' ∧ cs'.length = xs.length ∧ ∀ p ∈ cs', p ∈ cs
  | [], _ => ⟨[], rfl, rfl, by simp [runD, sSeq, sRet, sIf, sSet, sEx, sSub, sNil, eVar, eC, eOp, eChain, tTruth, tBl, tNotM, tAndM, tOrM, eAndM, eOrM, eNotM, eIfM, aNil, aCons, eTup, eLst, mkLst, mkTup, eCB, eF, eSl, oPart, oNone, eUn, isB, truD, isiF, tyOf, subT, leD, ltD, gtD, geD, cmpD, lenF, lenN, neD, eqD, eqB, ofOpt, MM.keep, Res.bind, Res.toS, ixD, addD, subD, modD, fdivD, intF, List.replicate, setD, negD, mulD, sizeLine, sAsg, asg, asgs, items, sPar, n_add_mix, n_add_scale, n_add_swap, n_add_set, n_add_copy, n_mix_add, n_mix_scale, n_mix_swap, n_mix_set, n_mix_copy, n_scale_add, n_scale_mix, n_scale_swap, n_scale_set, n_scale_copy, n_swap_add, n_swap_mix, n_swap_scale, n_swap_set, n_swap_copy, n_set_add, n_set_mix, n_set_scale, n_set_swap, n_set_copy, n_copy_add, n_copy_mix, n_copy_scale, n_copy_swap, n_copy_set, i_add_addset, i_mix_addset, i_scale_addset, i_swap_addset, i_set_addset, i_copy_addset, i_add_setcopy, i_mix_setcopy, i_scale_setcopy, i_swap_setcopy, i_set_setcopy, i_copy_setcopy, i_add_mixcopy, i_mix_mixcopy, i_scale_mixcopy, i_swap_mixcopy, i_set_mixcopy, i_copy_mixcopy, MH.seq, listF, tupleF, allF, MF.bools_map, ixD2, dgetD, dkey, eDct, ePs, putDct, keysD, mergeD, putD, valD, gn1, gn0, gn00, gs10, gs01, aI0, aI1, aI2, aI3]⟩
  | x :: xs, h => by
    obtain ⟨cs', e, l, m⟩ := back (xs := xs) fun y hy => h y (List.mem_cons_of_mem _ hy)
    obtain ⟨p, hp, rfl⟩ := List.mem_map.mp (h x List.mem_cons_self)
    refine ⟨p :: cs', by rw [e]; rfl, by simp [runD, sSeq, sRet, sIf, sSet, sEx, sSub, sNil, eVar, eC, eOp, eChain, tTruth, tBl, tNotM, tAndM, tOrM, eAndM, eOrM, eNotM, eIfM, aNil, aCons, eTup, eLst, mkLst, mkTup, eCB, eF, eSl, oPart, oNone, eUn, isB, truD, isiF, tyOf, subT, leD, ltD, gtD, geD, cmpD, lenF, lenN, neD, eqD, eqB, ofOpt, MM.keep, Res.bind, Res.toS, ixD, addD, subD, modD, fdivD, intF, List.replicate, setD, negD, mulD, sizeLine, sAsg, asg, asgs, items, sPar, n_add_mix, n_add_scale, n_add_swap, n_add_set, n_add_copy, n_mix_add, n_mix_scale, n_mix_swap, n_mix_set, n_mix_copy, n_scale_add, n_scale_mix, n_scale_swap, n_scale_set, n_scale_copy, n_swap_add, n_swap_mix, n_swap_scale, n_swap_set, n_swap_copy, n_set_add, n_set_mix, n_set_scale, n_set_swap, n_set_copy, n_copy_add, n_copy_mix, n_copy_scale, n_copy_swap, n_copy_set, i_add_addset, i_mix_addset, i_scale_addset, i_swap_addset, i_set_addset, i_copy_addset, i_add_setcopy, i_mix_setcopy, i_scale_setcopy, i_swap_setcopy, i_set_setcopy, i_copy_setcopy, i_add_mixcopy, i_mix_mixcopy, i_scale_mixcopy, i_swap_mixcopy, i_set_mixcopy, i_copy_mixcopy, MH.seq, listF, tupleF, allF, MF.bools_map, ixD2, dgetD, dkey, eDct, ePs, putDct, keysD, mergeD, putD, valD, gn1, gn0, gn00, gs10, gs01, aI0, aI1, aI2, aI3, l], fun q hq => ?_⟩
    rcases List.mem_cons.mp hq with z | z
    · rw [z]; exact hp
    · exact m q z
theorem sorts {h : MH} {r n : Nat} {cs : List (Nat × Int)} (g : h.get r = some (.lst (cD cs))) (hc : Conds n cs) : ∃ cs', Conds n cs' ∧ sortedF [.ref r] h = some (.ref h.n, h.add (.lst (cD cs'))) := by
  have al : alikes (pD cs) = true := by
    unfold alikes pD
    rw [List.all_eq_true]
    intro p hp
    rw [List.all_eq_true]
    intro q hq
    obtain ⟨a, _, rfl⟩ := List.mem_map.mp hp
    obtain ⟨b, _, rfl⟩ := List.mem_map.mp hq
    simp [runD, sSeq, sRet, sIf, sSet, sEx, sSub, sNil, eVar, eC, eOp, eChain, tTruth, tBl, tNotM, tAndM, tOrM, eAndM, eOrM, eNotM, eIfM, aNil, aCons, eTup, eLst, mkLst, mkTup, eCB, eF, eSl, oPart, oNone, eUn, isB, truD, isiF, tyOf, subT, leD, ltD, gtD, geD, cmpD, lenF, lenN, neD, eqD, eqB, ofOpt, MM.keep, Res.bind, Res.toS, ixD, addD, subD, modD, fdivD, intF, List.replicate, setD, negD, mulD, sizeLine, sAsg, asg, asgs, items, sPar, n_add_mix, n_add_scale, n_add_swap, n_add_set, n_add_copy, n_mix_add, n_mix_scale, n_mix_swap, n_mix_set, n_mix_copy, n_scale_add, n_scale_mix, n_scale_swap, n_scale_set, n_scale_copy, n_swap_add, n_swap_mix, n_swap_scale, n_swap_set, n_swap_copy, n_set_add, n_set_mix, n_set_scale, n_set_swap, n_set_copy, n_copy_add, n_copy_mix, n_copy_scale, n_copy_swap, n_copy_set, i_add_addset, i_mix_addset, i_scale_addset, i_swap_addset, i_set_addset, i_copy_addset, i_add_setcopy, i_mix_setcopy, i_scale_setcopy, i_swap_setcopy, i_set_setcopy, i_copy_setcopy, i_add_mixcopy, i_mix_mixcopy, i_scale_mixcopy, i_swap_mixcopy, i_set_mixcopy, i_copy_mixcopy, MH.seq, listF, tupleF, allF, MF.bools_map, ixD2, dgetD, dkey, eDct, ePs, putDct, keysD, mergeD, putD, valD, gn1, gn0, gn00, gs10, gs01, aI0, aI1, aI2, aI3, PySem.W.alike, PySem.W.alikeAll]
  have fu : (pD cs).all fullTup = true := by
    unfold pD
    rw [List.all_eq_true]
    intro p hp
    obtain ⟨a, _, rfl⟩ := List.mem_map.mp hp
    rfl
  have dp : (pD cs).all (fun p => decide (p.depth ≤ 64)) = true := by
    unfold pD
    rw [List.all_eq_true]
    intro p hp
    obtain ⟨a, _, rfl⟩ := List.mem_map.mp hp
    simp [runD, sSeq, sRet, sIf, sSet, sEx, sSub, sNil, eVar, eC, eOp, eChain, tTruth, tBl, tNotM, tAndM, tOrM, eAndM, eOrM, eNotM, eIfM, aNil, aCons, eTup, eLst, mkLst, mkTup, eCB, eF, eSl, oPart, oNone, eUn, isB, truD, isiF, tyOf, subT, leD, ltD, gtD, geD, cmpD, lenF, lenN, neD, eqD, eqB, ofOpt, MM.keep, Res.bind, Res.toS, ixD, addD, subD, modD, fdivD, intF, List.replicate, setD, negD, mulD, sizeLine, sAsg, asg, asgs, items, sPar, n_add_mix, n_add_scale, n_add_swap, n_add_set, n_add_copy, n_mix_add, n_mix_scale, n_mix_swap, n_mix_set, n_mix_copy, n_scale_add, n_scale_mix, n_scale_swap, n_scale_set, n_scale_copy, n_swap_add, n_swap_mix, n_swap_scale, n_swap_set, n_swap_copy, n_set_add, n_set_mix, n_set_scale, n_set_swap, n_set_copy, n_copy_add, n_copy_mix, n_copy_scale, n_copy_swap, n_copy_set, i_add_addset, i_mix_addset, i_scale_addset, i_swap_addset, i_set_addset, i_copy_addset, i_add_setcopy, i_mix_setcopy, i_scale_setcopy, i_swap_setcopy, i_set_setcopy, i_copy_setcopy, i_add_mixcopy, i_mix_mixcopy, i_scale_mixcopy, i_swap_mixcopy, i_set_mixcopy, i_copy_mixcopy, MH.seq, listF, tupleF, allF, MF.bools_map, ixD2, dgetD, dkey, eDct, ePs, putDct, keysD, mergeD, putD, valD, gn1, gn0, gn00, gs10, gs01, aI0, aI1, aI2, aI3, PyData.depth, PyData.depthAll]
  have zl : ((cD cs).zip (pD cs)).length = cs.length := by simp [runD, sSeq, sRet, sIf, sSet, sEx, sSub, sNil, eVar, eC, eOp, eChain, tTruth, tBl, tNotM, tAndM, tOrM, eAndM, eOrM, eNotM, eIfM, aNil, aCons, eTup, eLst, mkLst, mkTup, eCB, eF, eSl, oPart, oNone, eUn, isB, truD, isiF, tyOf, subT, leD, ltD, gtD, geD, cmpD, lenF, lenN, neD, eqD, eqB, ofOpt, MM.keep, Res.bind, Res.toS, ixD, addD, subD, modD, fdivD, intF, List.replicate, setD, negD, mulD, sizeLine, sAsg, asg, asgs, items, sPar, n_add_mix, n_add_scale, n_add_swap, n_add_set, n_add_copy, n_mix_add, n_mix_scale, n_mix_swap, n_mix_set, n_mix_copy, n_scale_add, n_scale_mix, n_scale_swap, n_scale_set, n_scale_copy, n_swap_add, n_swap_mix, n_swap_scale, n_swap_set, n_swap_copy, n_set_add, n_set_mix, n_set_scale, n_set_swap, n_set_copy, n_copy_add, n_copy_mix, n_copy_scale, n_copy_swap, n_copy_set, i_add_addset, i_mix_addset, i_scale_addset, i_swap_addset, i_set_addset, i_copy_addset, i_add_setcopy, i_mix_setcopy, i_scale_setcopy, i_swap_setcopy, i_set_setcopy, i_copy_setcopy, i_add_mixcopy, i_mix_mixcopy, i_scale_mixcopy, i_swap_mixcopy, i_set_mixcopy, i_copy_mixcopy, MH.seq, listF, tupleF, allF, MF.bools_map, ixD2, dgetD, dkey, eDct, ePs, putDct, keysD, mergeD, putD, valD, gn1, gn0, gn00, gs10, gs01, aI0, aI1, aI2, aI3, cD, pD]
  obtain ⟨cs', e, l, m⟩ := back (cs := cs) (xs := (isort leP ((cD cs).zip (pD cs))).map Prod.fst) (fun x hx => by
    obtain ⟨y, hy, rfl⟩ := List.mem_map.mp hx
    exact (List.of_mem_zip (mem_isort hy)).1)
  refine ⟨cs', ⟨by rw [l, List.length_map, len_isort, zl]; exact hc.1, fun p hp => hc.2 p (m p hp)⟩, ?_⟩
  have sq := MH.seq_lst g
  have sn := snap_cD h 38 cs
  simp only [sortedF, sq, deep, sn]
  rw [if_pos (by rw [al, fu, dp]; rfl), e]
/-- where a digit is not altered -/
theorem notIn {h : MH} {r : Nat} {as : List Int} (g : h.get r = some (.lst (as.map .int))) (k : Int) : notInD (.int k) (.ref r) h = some (.bl (!((as.map PyData.int).any fun z => PyData.eqv z (.int k))), h) := by
  have sq := MH.seq_lst g
  have s2 := shaped_ints as
  have s1 : SeqAt.shaped (.int k) = true := by simp [runD, sSeq, sRet, sIf, sSet, sEx, sSub, sNil, eVar, eC, eOp, eChain, tTruth, tBl, tNotM, tAndM, tOrM, eAndM, eOrM, eNotM, eIfM, aNil, aCons, eTup, eLst, mkLst, mkTup, eCB, eF, eSl, oPart, oNone, eUn, isB, truD, isiF, tyOf, subT, leD, ltD, gtD, geD, cmpD, lenF, lenN, neD, eqD, eqB, ofOpt, MM.keep, Res.bind, Res.toS, ixD, addD, subD, modD, fdivD, intF, List.replicate, setD, negD, mulD, sizeLine, sAsg, asg, asgs, items, sPar, n_add_mix, n_add_scale, n_add_swap, n_add_set, n_add_copy, n_mix_add, n_mix_scale, n_mix_swap, n_mix_set, n_mix_copy, n_scale_add, n_scale_mix, n_scale_swap, n_scale_set, n_scale_copy, n_swap_add, n_swap_mix, n_swap_scale, n_swap_set, n_swap_copy, n_set_add, n_set_mix, n_set_scale, n_set_swap, n_set_copy, n_copy_add, n_copy_mix, n_copy_scale, n_copy_swap, n_copy_set, i_add_addset, i_mix_addset, i_scale_addset, i_swap_addset, i_set_addset, i_copy_addset, i_add_setcopy, i_mix_setcopy, i_scale_setcopy, i_swap_setcopy, i_set_setcopy, i_copy_setcopy, i_add_mixcopy, i_mix_mixcopy, i_scale_mixcopy, i_swap_mixcopy, i_set_mixcopy, i_copy_mixcopy, MH.seq, listF, tupleF, allF, MF.bools_map, ixD2, dgetD, dkey, eDct, ePs, putDct, keysD, mergeD, putD, valD, gn1, gn0, gn00, gs10, gs01, aI0, aI1, aI2, aI3, SeqAt.shaped, PyData.canLay0, PyData.depth]
  simp only [notInD, inB, deep, snap, sq, snap_ints, Option.map_some, s1, s2, Bool.and_self, if_true]
theorem parTwo {i j : Nat} {m m2 : Mx} {a b : D} {env : ME} {h h1 h2 : MH} (q1 : m env h = .ok a h1) (q2 : m2 env h1 = .ok b h2) : sPar i j (aCons m (aCons m2 aNil)) env h = .nx ((env.set i (some a)).set j (some b)) h2 := by
  simp [runD, sSeq, sRet, sIf, sSet, sEx, sSub, sNil, eVar, eC, eOp, eChain, tTruth, tBl, tNotM, tAndM, tOrM, eAndM, eOrM, eNotM, eIfM, aNil, aCons, eTup, eLst, mkLst, mkTup, eCB, eF, eSl, oPart, oNone, eUn, isB, truD, isiF, tyOf, subT, leD, ltD, gtD, geD, cmpD, lenF, lenN, neD, eqD, eqB, ofOpt, MM.keep, Res.bind, Res.toS, ixD, addD, subD, modD, fdivD, intF, List.replicate, setD, negD, mulD, sizeLine, sAsg, asg, asgs, items, sPar, n_add_mix, n_add_scale, n_add_swap, n_add_set, n_add_copy, n_mix_add, n_mix_scale, n_mix_swap, n_mix_set, n_mix_copy, n_scale_add, n_scale_mix, n_scale_swap, n_scale_set, n_scale_copy, n_swap_add, n_swap_mix, n_swap_scale, n_swap_set, n_swap_copy, n_set_add, n_set_mix, n_set_scale, n_set_swap, n_set_copy, n_copy_add, n_copy_mix, n_copy_scale, n_copy_swap, n_copy_set, i_add_addset, i_mix_addset, i_scale_addset, i_swap_addset, i_set_addset, i_copy_addset, i_add_setcopy, i_mix_setcopy, i_scale_setcopy, i_swap_setcopy, i_set_setcopy, i_copy_setcopy, i_add_mixcopy, i_mix_mixcopy, i_scale_mixcopy, i_swap_mixcopy, i_set_mixcopy, i_copy_mixcopy, MH.seq, listF, tupleF, allF, MF.bools_map, ixD2, dgetD, dkey, eDct, ePs, putDct, keysD, mergeD, putD, valD, gn1, gn0, gn00, gs10, gs01, aI0, aI1, aI2, aI3, q1, q2]
def bodyC : Ms := sIf (tBl (eOp neD (eVar 3) (eLst aNil))) (sSeq (sSet 6 (ePop (eVar 3) (aCons (eF m__law_take (aCons (eVar 0) (aCons (eCB lenF (aCons (eVar 3) aNil)) aNil))) aNil)))
  (sEx (eApp (eVar 4) (aCons (eTup (aCons (eVar 6) (aCons (eF m__law_take (aCons (eVar 0) (aCons (eOp ixD (eVar 1) (eVar 6)) aNil))) aNil))) aNil)))) sNil
structure InC (i fa ka : Nat) (bs : List Int) (x2 : Option D) (h0 : MH) (k : Nat) (env : ME) (h : MH) : Prop where
  en : ∃ x5 x6, env = [some (.ref i), some (.tup (bs.map .int)), x2, some (.ref fa), some (.ref ka), x5, x6]
  fd : Fd i h0 h
  li : fa < h.n ∧ ka < h.n ∧ fa ≠ i ∧ ka ≠ i ∧ fa ≠ ka ∧ h0.n ≤ fa ∧ h0.n ≤ ka
  fr : ∃ fr : List Int, h.get fa = some (.lst (fr.map .int)) ∧ fr.length ≤ 6 ∧ ∀ o ∈ fr, 0 ≤ o ∧ o < bs.length
  cs : ∃ cs, h.get ka = some (.lst (cD cs)) ∧ cs.length ≤ k ∧ ∀ p ∈ cs, p.1 < bs.length ∧ 0 ≤ p.2 ∧ p.2 < 70
theorem turnC {i fa ka k : Nat} {bs : List Int} {x2 : Option D} {h0 : MH} {env : ME} {h : MH} (s : Sh bs) (hk : k < 6) (I : InC i fa ka bs x2 h0 k env h) : ∃ (e2 : ME) (h2 : MH), bodyC env h = .nx e2 h2 ∧ InC i fa ka bs x2 h0 (k + 1) e2 h2 := by
  obtain ⟨⟨x5, x6, rfl⟩, fd, ⟨l1, l2, l3, l4, l5, l6, l7⟩, ⟨fr, gf, fl, fm⟩, ⟨cs, gk, cl, cm⟩⟩ := I
  have hA : Fd i h0 (h.add (.lst [])) := fd.add _
  have gA : (h.add (.lst [])).get fa = some (.lst (fr.map .int)) := by rw [MH.get_add_ne _ _ (by omega)]; exact gf
  have kA : (h.add (.lst [])).get ka = some (.lst (cD cs)) := by rw [MH.get_add_ne _ _ (by omega)]; exact gk
  have nA : (h.add (.lst [])).n = h.n + 1 := rfl
  have ne := neNil gA (MH.get_add_same h (.lst []))
  have t0 : tBl (eOp neD (eVar 3) (eLst aNil)) [some (.ref i), some (.tup (bs.map .int)), x2, some (.ref fa), some (.ref ka), x5, x6] h = .ok (!fr.isEmpty) (h.add (.lst [])) := by simp [runD, sSeq, sRet, sIf, sSet, sEx, sSub, sNil, eVar, eC, eOp, eChain, tTruth, tBl, tNotM, tAndM, tOrM, eAndM, eOrM, eNotM, eIfM, aNil, aCons, eTup, eLst, mkLst, mkTup, eCB, eF, eSl, oPart, oNone, eUn, isB, truD, isiF, tyOf, subT, leD, ltD, gtD, geD, cmpD, lenF, lenN, neD, eqD, eqB, ofOpt, MM.keep, Res.bind, Res.toS, ixD, addD, subD, modD, fdivD, intF, List.replicate, setD, negD, mulD, sizeLine, sAsg, asg, asgs, items, sPar, n_add_mix, n_add_scale, n_add_swap, n_add_set, n_add_copy, n_mix_add, n_mix_scale, n_mix_swap, n_mix_set, n_mix_copy, n_scale_add, n_scale_mix, n_scale_swap, n_scale_set, n_scale_copy, n_swap_add, n_swap_mix, n_swap_scale, n_swap_set, n_swap_copy, n_set_add, n_set_mix, n_set_scale, n_set_swap, n_set_copy, n_copy_add, n_copy_mix, n_copy_scale, n_copy_swap, n_copy_set, i_add_addset, i_mix_addset, i_scale_addset, i_swap_addset, i_set_addset, i_copy_addset, i_add_setcopy, i_mix_setcopy, i_scale_setcopy, i_swap_setcopy, i_set_setcopy, i_copy_setcopy, i_add_mixcopy, i_mix_mixcopy, i_scale_mixcopy, i_swap_mixcopy, i_set_mixcopy, i_copy_mixcopy, MH.seq, listF, tupleF, allF, MF.bools_map, ixD2, dgetD, dkey, eDct, ePs, putDct, keysD, mergeD, putD, valD, gn1, gn0, gn00, gs10, gs01, aI0, aI1, aI2, aI3, ne, -neD]
  cases q : fr.isEmpty with
  | true =>
    rw [q] at t0
    exact ⟨_, h.add (.lst []), (sIf_not t0).trans rfl, ⟨_, _, rfl⟩, hA, ⟨by omega, by omega, l3, l4, l5, l6, l7⟩, ⟨fr, gA, fl, fm⟩, ⟨cs, kA, by omega, cm⟩⟩
  | false =>
    rw [q] at t0
    have fp : 0 < fr.length := by
      cases fr with
      | nil => cases q
      | cons a b => simp [runD, sSeq, sRet, sIf, sSet, sEx, sSub, sNil, eVar, eC, eOp, eChain, tTruth, tBl, tNotM, tAndM, tOrM, eAndM, eOrM, eNotM, eIfM, aNil, aCons, eTup, eLst, mkLst, mkTup, eCB, eF, eSl, oPart, oNone, eUn, isB, truD, isiF, tyOf, subT, leD, ltD, gtD, geD, cmpD, lenF, lenN, neD, eqD, eqB, ofOpt, MM.keep, Res.bind, Res.toS, ixD, addD, subD, modD, fdivD, intF, List.replicate, setD, negD, mulD, sizeLine, sAsg, asg, asgs, items, sPar, n_add_mix, n_add_scale, n_add_swap, n_add_set, n_add_copy, n_mix_add, n_mix_scale, n_mix_swap, n_mix_set, n_mix_copy, n_scale_add, n_scale_mix, n_scale_swap, n_scale_set, n_scale_copy, n_swap_add, n_swap_mix, n_swap_scale, n_swap_set, n_swap_copy, n_set_add, n_set_mix, n_set_scale, n_set_swap, n_set_copy, n_copy_add, n_copy_mix, n_copy_scale, n_copy_swap, n_copy_set, i_add_addset, i_mix_addset, i_scale_addset, i_swap_addset, i_set_addset, i_copy_addset, i_add_setcopy, i_mix_setcopy, i_scale_setcopy, i_swap_setcopy, i_set_setcopy, i_copy_setcopy, i_add_mixcopy, i_mix_mixcopy, i_scale_mixcopy, i_swap_mixcopy, i_set_mixcopy, i_copy_mixcopy, MH.seq, listF, tupleF, allF, MF.bools_map, ixD2, dgetD, dkey, eDct, ePs, putDct, keysD, mergeD, putD, valD, gn1, gn0, gn00, gs10, gs01, aI0, aI1, aI2, aI3]
    obtain ⟨r, h2, r0, r1, e2, f2, n2⟩ := take hA.lt hA.fd (m := (fr.length : Int)) (by omega) (by omega)
    obtain ⟨n, rfl⟩ := Int.eq_ofNat_of_zero_le r0
    have hn : n < fr.length := by omega
    have g2 : h2.get fa = some (.lst (fr.map .int)) := (f2.ot _ l3 (by omega)).trans gA
    have k2 : h2.get ka = some (.lst (cD cs)) := (f2.ot _ l4 (by omega)).trans kA
    obtain ⟨o0, o1⟩ := fm _ (List.getElem_mem hn)
    obtain ⟨j, hj⟩ := Int.eq_ofNat_of_zero_le o0
    have hjb : j < bs.length := by omega
    have bj := s.at hjb
    have xj := ix_at (ds := bs) hjb
    let h3 := h2.set fa (.lst ((fr.eraseIdx n).map .int))
    have f3 : Fd i h0 h3 := (hA.trans f2).setO l3 l6 _
    obtain ⟨v, h4, v0, v1, e4, f4, n4⟩ := take f3.lt f3.fd (m := at_ bs j) (by omega) (by omega)
    have n3 : h3.n = h.n + 1 := n2
    have g4 : h4.get fa = some (.lst ((fr.eraseIdx n).map .int)) := (f4.ot _ l3 (by omega)).trans (MH.get_set_same _ _ _)
    have k3 : h3.get ka = some (.lst (cD cs)) := (MH.get_set_ne _ _ (Ne.symm l5)).trans k2
    have k4 : h4.get ka = some (.lst (cD cs)) := (f4.ot _ l4 (by omega)).trans k3
    have sA := MH.seq_lst gA
    have ps : popD (.ref fa) [.int (n : Int)] h2 = some (.int (j : Int), h3) := by
      have sx : seqIndex? (n : Int) fr.length = some n := by
        have z : ¬ ((n : Int) < 0) := by omega
        unfold seqIndex?
        simp [runD, sSeq, sRet, sIf, sSet, sEx, sSub, sNil, eVar, eC, eOp, eChain, tTruth, tBl, tNotM, tAndM, tOrM, eAndM, eOrM, eNotM, eIfM, aNil, aCons, eTup, eLst, mkLst, mkTup, eCB, eF, eSl, oPart, oNone, eUn, isB, truD, isiF, tyOf, subT, leD, ltD, gtD, geD, cmpD, lenF, lenN, neD, eqD, eqB, ofOpt, MM.keep, Res.bind, Res.toS, ixD, addD, subD, modD, fdivD, intF, List.replicate, setD, negD, mulD, sizeLine, sAsg, asg, asgs, items, sPar, n_add_mix, n_add_scale, n_add_swap, n_add_set, n_add_copy, n_mix_add, n_mix_scale, n_mix_swap, n_mix_set, n_mix_copy, n_scale_add, n_scale_mix, n_scale_swap, n_scale_set, n_scale_copy, n_swap_add, n_swap_mix, n_swap_scale, n_swap_set, n_swap_copy, n_set_add, n_set_mix, n_set_scale, n_set_swap, n_set_copy, n_copy_add, n_copy_mix, n_copy_scale, n_copy_swap, n_copy_set, i_add_addset, i_mix_addset, i_scale_addset, i_swap_addset, i_set_addset, i_copy_addset, i_add_setcopy, i_mix_setcopy, i_scale_setcopy, i_swap_setcopy, i_set_setcopy, i_copy_setcopy, i_add_mixcopy, i_mix_mixcopy, i_scale_mixcopy, i_swap_mixcopy, i_set_mixcopy, i_copy_mixcopy, MH.seq, listF, tupleF, allF, MF.bools_map, ixD2, dgetD, dkey, eDct, ePs, putDct, keysD, mergeD, putD, valD, gn1, gn0, gn00, gs10, gs01, aI0, aI1, aI2, aI3, z, hn]
      have er : (fr.map D.int).eraseIdx n = (fr.eraseIdx n).map D.int := by rw [List.eraseIdx_eq_take_drop_succ, List.eraseIdx_eq_take_drop_succ, List.map_append, List.map_take, List.map_drop]
      have b1 : -(2 ^ 63) ≤ (n : Int) ∧ (n : Int) < 2 ^ 63 := by omega
      simp only [popD, popAt, g2, List.length_map, sx]
      rw [if_pos b1]
      simp only [List.getElem?_map, List.getElem?_eq_getElem hn, Option.map_some, hj, er]
      rfl
    refine ⟨[some (.ref i), some (.tup (bs.map .int)), x2, some (.ref fa), some (.ref ka), x5, some (.int j)], h4.set ka (.lst (cD (cs ++ [(j, v)]))), (sIf_go t0).trans ((sSeq_nx (e := [some (.ref i), some (.tup (bs.map .int)), x2, some (.ref fa), some (.ref ka), x5, some (.int j)]) (h1 := h3) ?_).trans ?_), ⟨_, _, rfl⟩, (f3.trans f4).setO l4 l7 _, ⟨?_, ?_, l3, l4, l5, l6, l7⟩, ⟨fr.eraseIdx n, ?_, ?_, ?_⟩, ⟨cs ++ [(j, v)], MH.get_set_same _ _ _, ?_, ?_⟩⟩
    · have isl : isLst (h.add (.lst [])) (.ref fa) = true := by unfold isLst; simp only [gA]
      simp only [sSet, ePop, eVar, List.getElem?_cons_succ, List.getElem?_cons_zero, Res.bind, isl, cond_true, aCons, aNil, eF, eCB, lenF, lenN, sA, Option.map_some, List.length_map, ofOpt, e2, ps, Res.toS, List.set_cons_succ, List.set_cons_zero]
    · have isl : isLst h3 (.ref ka) = true := by unfold isLst; simp only [k3]
      have len : (cD cs).length < sizeLine := by
        have : (6 : Nat) < sizeLine := by decide
        simp [runD, sSeq, sRet, sIf, sSet, sEx, sSub, sNil, eVar, eC, eOp, eChain, tTruth, tBl, tNotM, tAndM, tOrM, eAndM, eOrM, eNotM, eIfM, aNil, aCons, eTup, eLst, mkLst, mkTup, eCB, eF, eSl, oPart, oNone, eUn, isB, truD, isiF, tyOf, subT, leD, ltD, gtD, geD, cmpD, lenF, lenN, neD, eqD, eqB, ofOpt, MM.keep, Res.bind, Res.toS, ixD, addD, subD, modD, fdivD, intF, List.replicate, setD, negD, mulD, sizeLine, sAsg, asg, asgs, items, sPar, n_add_mix, n_add_scale, n_add_swap, n_add_set, n_add_copy, n_mix_add, n_mix_scale, n_mix_swap, n_mix_set, n_mix_copy, n_scale_add, n_scale_mix, n_scale_swap, n_scale_set, n_scale_copy, n_swap_add, n_swap_mix, n_swap_scale, n_swap_set, n_swap_copy, n_set_add, n_set_mix, n_set_scale, n_set_swap, n_set_copy, n_copy_add, n_copy_mix, n_copy_scale, n_copy_swap, n_copy_set, i_add_addset, i_mix_addset, i_scale_addset, i_swap_addset, i_set_addset, i_copy_addset, i_add_setcopy, i_mix_setcopy, i_scale_setcopy, i_swap_setcopy, i_set_setcopy, i_copy_setcopy, i_add_mixcopy, i_mix_mixcopy, i_scale_mixcopy, i_swap_mixcopy, i_set_mixcopy, i_copy_mixcopy, MH.seq, listF, tupleF, allF, MF.bools_map, ixD2, dgetD, dkey, eDct, ePs, putDct, keysD, mergeD, putD, valD, gn1, gn0, gn00, gs10, gs01, aI0, aI1, aI2, aI3, cD] at *
        omega
      have ap : cD cs ++ [.tup [.int j, .int v]] = cD (cs ++ [(j, v)]) := by simp [runD, sSeq, sRet, sIf, sSet, sEx, sSub, sNil, eVar, eC, eOp, eChain, tTruth, tBl, tNotM, tAndM, tOrM, eAndM, eOrM, eNotM, eIfM, aNil, aCons, eTup, eLst, mkLst, mkTup, eCB, eF, eSl, oPart, oNone, eUn, isB, truD, isiF, tyOf, subT, leD, ltD, gtD, geD, cmpD, lenF, lenN, neD, eqD, eqB, ofOpt, MM.keep, Res.bind, Res.toS, ixD, addD, subD, modD, fdivD, intF, List.replicate, setD, negD, mulD, sizeLine, sAsg, asg, asgs, items, sPar, n_add_mix, n_add_scale, n_add_swap, n_add_set, n_add_copy, n_mix_add, n_mix_scale, n_mix_swap, n_mix_set, n_mix_copy, n_scale_add, n_scale_mix, n_scale_swap, n_scale_set, n_scale_copy, n_swap_add, n_swap_mix, n_swap_scale, n_swap_set, n_swap_copy, n_set_add, n_set_mix, n_set_scale, n_set_swap, n_set_copy, n_copy_add, n_copy_mix, n_copy_scale, n_copy_swap, n_copy_set, i_add_addset, i_mix_addset, i_scale_addset, i_swap_addset, i_set_addset, i_copy_addset, i_add_setcopy, i_mix_setcopy, i_scale_setcopy, i_swap_setcopy, i_set_setcopy, i_copy_setcopy, i_add_mixcopy, i_mix_mixcopy, i_scale_mixcopy, i_swap_mixcopy, i_set_mixcopy, i_copy_mixcopy, MH.seq, listF, tupleF, allF, MF.bools_map, ixD2, dgetD, dkey, eDct, ePs, putDct, keysD, mergeD, putD, valD, gn1, gn0, gn00, gs10, gs01, aI0, aI1, aI2, aI3, cD]
      have tw : eTup (aCons (eVar 6) (aCons (eF m__law_take (aCons (eVar 0) (aCons (eOp ixD (eVar 1) (eVar 6)) aNil))) aNil)) [some (.ref i), some (.tup (bs.map .int)), x2, some (.ref fa), some (.ref ka), x5, some (.int j)] h3 = .ok (.tup [.int j, .int v]) h4 :=
        two (h1 := h4) rfl (by simp only [eF, aCons, aNil, eVar, eOp, List.getElem?_cons_succ, List.getElem?_cons_zero, Res.bind, ofOpt, ixD, xj, keep, e4])
      have pu : pushD h4 ka (.tup [.int j, .int v]) = some (h4.set ka (.lst (cD (cs ++ [(j, v)])))) := by
        unfold pushD
        rw [k4]
        simp only [if_pos len, ap]
      simp only [sEx, eApp, eVar, List.getElem?_cons_succ, List.getElem?_cons_zero, Res.bind, isl, cond_true, aCons, aNil, tw, appendD, pu, Option.map_some, ofOpt, Res.toS]
    · simp [runD, sSeq, sRet, sIf, sSet, sEx, sSub, sNil, eVar, eC, eOp, eChain, tTruth, tBl, tNotM, tAndM, tOrM, eAndM, eOrM, eNotM, eIfM, aNil, aCons, eTup, eLst, mkLst, mkTup, eCB, eF, eSl, oPart, oNone, eUn, isB, truD, isiF, tyOf, subT, leD, ltD, gtD, geD, cmpD, lenF, lenN, neD, eqD, eqB, ofOpt, MM.keep, Res.bind, Res.toS, ixD, addD, subD, modD, fdivD, intF, List.replicate, setD, negD, mulD, sizeLine, sAsg, asg, asgs, items, sPar, n_add_mix, n_add_scale, n_add_swap, n_add_set, n_add_copy, n_mix_add, n_mix_scale, n_mix_swap, n_mix_set, n_mix_copy, n_scale_add, n_scale_mix, n_scale_swap, n_scale_set, n_scale_copy, n_swap_add, n_swap_mix, n_swap_scale, n_swap_set, n_swap_copy, n_set_add, n_set_mix, n_set_scale, n_set_swap, n_set_copy, n_copy_add, n_copy_mix, n_copy_scale, n_copy_swap, n_copy_set, i_add_addset, i_mix_addset, i_scale_addset, i_swap_addset, i_set_addset, i_copy_addset, i_add_setcopy, i_mix_setcopy, i_scale_setcopy, i_swap_setcopy, i_set_setcopy, i_copy_setcopy, i_add_mixcopy, i_mix_mixcopy, i_scale_mixcopy, i_swap_mixcopy, i_set_mixcopy, i_copy_mixcopy, MH.seq, listF, tupleF, allF, MF.bools_map, ixD2, dgetD, dkey, eDct, ePs, putDct, keysD, mergeD, putD, valD, gn1, gn0, gn00, gs10, gs01, aI0, aI1, aI2, aI3]; omega
    · simp [runD, sSeq, sRet, sIf, sSet, sEx, sSub, sNil, eVar, eC, eOp, eChain, tTruth, tBl, tNotM, tAndM, tOrM, eAndM, eOrM, eNotM, eIfM, aNil, aCons, eTup, eLst, mkLst, mkTup, eCB, eF, eSl, oPart, oNone, eUn, isB, truD, isiF, tyOf, subT, leD, ltD, gtD, geD, cmpD, lenF, lenN, neD, eqD, eqB, ofOpt, MM.keep, Res.bind, Res.toS, ixD, addD, subD, modD, fdivD, intF, List.replicate, setD, negD, mulD, sizeLine, sAsg, asg, asgs, items, sPar, n_add_mix, n_add_scale, n_add_swap, n_add_set, n_add_copy, n_mix_add, n_mix_scale, n_mix_swap, n_mix_set, n_mix_copy, n_scale_add, n_scale_mix, n_scale_swap, n_scale_set, n_scale_copy, n_swap_add, n_swap_mix, n_swap_scale, n_swap_set, n_swap_copy, n_set_add, n_set_mix, n_set_scale, n_set_swap, n_set_copy, n_copy_add, n_copy_mix, n_copy_scale, n_copy_swap, n_copy_set, i_add_addset, i_mix_addset, i_scale_addset, i_swap_addset, i_set_addset, i_copy_addset, i_add_setcopy, i_mix_setcopy, i_scale_setcopy, i_swap_setcopy, i_set_setcopy, i_copy_setcopy, i_add_mixcopy, i_mix_mixcopy, i_scale_mixcopy, i_swap_mixcopy, i_set_mixcopy, i_copy_mixcopy, MH.seq, listF, tupleF, allF, MF.bools_map, ixD2, dgetD, dkey, eDct, ePs, putDct, keysD, mergeD, putD, valD, gn1, gn0, gn00, gs10, gs01, aI0, aI1, aI2, aI3]; omega
    · rw [MH.get_set_ne _ _ l5]; exact g4
    · rw [List.length_eraseIdx_of_lt hn]; omega
    · exact fun o ho => fm o (List.mem_of_mem_eraseIdx ho)
    · simp [runD, sSeq, sRet, sIf, sSet, sEx, sSub, sNil, eVar, eC, eOp, eChain, tTruth, tBl, tNotM, tAndM, tOrM, eAndM, eOrM, eNotM, eIfM, aNil, aCons, eTup, eLst, mkLst, mkTup, eCB, eF, eSl, oPart, oNone, eUn, isB, truD, isiF, tyOf, subT, leD, ltD, gtD, geD, cmpD, lenF, lenN, neD, eqD, eqB, ofOpt, MM.keep, Res.bind, Res.toS, ixD, addD, subD, modD, fdivD, intF, List.replicate, setD, negD, mulD, sizeLine, sAsg, asg, asgs, items, sPar, n_add_mix, n_add_scale, n_add_swap, n_add_set, n_add_copy, n_mix_add, n_mix_scale, n_mix_swap, n_mix_set, n_mix_copy, n_scale_add, n_scale_mix, n_scale_swap, n_scale_set, n_scale_copy, n_swap_add, n_swap_mix, n_swap_scale, n_swap_set, n_swap_copy, n_set_add, n_set_mix, n_set_scale, n_set_swap, n_set_copy, n_copy_add, n_copy_mix, n_copy_scale, n_copy_swap, n_copy_set, i_add_addset, i_mix_addset, i_scale_addset, i_swap_addset, i_set_addset, i_copy_addset, i_add_setcopy, i_mix_setcopy, i_scale_setcopy, i_swap_setcopy, i_set_setcopy, i_copy_setcopy, i_add_mixcopy, i_mix_mixcopy, i_scale_mixcopy, i_swap_mixcopy, i_set_mixcopy, i_copy_mixcopy, MH.seq, listF, tupleF, allF, MF.bools_map, ixD2, dgetD, dkey, eDct, ePs, putDct, keysD, mergeD, putD, valD, gn1, gn0, gn00, gs10, gs01, aI0, aI1, aI2, aI3]; omega
    · intro p hp
      rcases List.mem_append.mp hp with z | z
      · exact cm p z
      · rw [List.mem_singleton.mp z]
        exact ⟨hjb, v0, by show v < 70; omega⟩
theorem conditions {i a : Nat} {bs as : List Int} (s : Sh bs) {h : MH} (f : Fd i h h) (ga : h.get a = some (.lst (as.map .int))) (la : a < h.n) (na : a ≠ i) :
    ∃ (cs : List (Nat × Int)) (h' : MH), m__law_conditions [.ref i, .tup (bs.map .int), .ref a] h = .ok (.tup (cD cs)) h' ∧ Conds bs.length cs ∧ Fd i h h' := by
  have le := s.le
  have lt := f.lt
  have tno : ∀ (k : Int) (h' : MH), Ext h h' → notInD (.int k) (.ref a) h' = some (.bl (!((as.map PyData.int).any fun z => PyData.eqv z (.int k))), h') := fun k h' x => notIn ((x.ot a la).trans ga) k
  obtain ⟨fr, h1, e1, x1, n1, g1, l1, m1⟩ := rangeC (n := bs.length) (s := 6) (tt := tBl (eOp notInD (eVar 6) (eVar 2))) (env := [some (.ref i), some (.tup (bs.map .int)), some (.ref a), none, none, none, none])
    (by omega) (by simp [runD, sSeq, sRet, sIf, sSet, sEx, sSub, sNil, eVar, eC, eOp, eChain, tTruth, tBl, tNotM, tAndM, tOrM, eAndM, eOrM, eNotM, eIfM, aNil, aCons, eTup, eLst, mkLst, mkTup, eCB, eF, eSl, oPart, oNone, eUn, isB, truD, isiF, tyOf, subT, leD, ltD, gtD, geD, cmpD, lenF, lenN, neD, eqD, eqB, ofOpt, MM.keep, Res.bind, Res.toS, ixD, addD, subD, modD, fdivD, intF, List.replicate, setD, negD, mulD, sizeLine, sAsg, asg, asgs, items, sPar, n_add_mix, n_add_scale, n_add_swap, n_add_set, n_add_copy, n_mix_add, n_mix_scale, n_mix_swap, n_mix_set, n_mix_copy, n_scale_add, n_scale_mix, n_scale_swap, n_scale_set, n_scale_copy, n_swap_add, n_swap_mix, n_swap_scale, n_swap_set, n_swap_copy, n_set_add, n_set_mix, n_set_scale, n_set_swap, n_set_copy, n_copy_add, n_copy_mix, n_copy_scale, n_copy_swap, n_copy_set, i_add_addset, i_mix_addset, i_scale_addset, i_swap_addset, i_set_addset, i_copy_addset, i_add_setcopy, i_mix_setcopy, i_scale_setcopy, i_swap_setcopy, i_set_setcopy, i_copy_setcopy, i_add_mixcopy, i_mix_mixcopy, i_scale_mixcopy, i_swap_mixcopy, i_set_mixcopy, i_copy_mixcopy, MH.seq, listF, tupleF, allF, MF.bools_map, ixD2, dgetD, dkey, eDct, ePs, putDct, keysD, mergeD, putD, valD, gn1, gn0, gn00, gs10, gs01, aI0, aI1, aI2, aI3]) rfl (fun k => !((as.map PyData.int).any fun z => PyData.eqv z (.int k))) h (fun k h' hk x => by simp only [tBl, eOp, eVar, List.getElem?_set_self, List.length_cons, List.length_nil, List.set_cons_succ, List.set_cons_zero, List.getElem?_cons_succ, List.getElem?_cons_zero, Res.bind, ofOpt, tno k h' x, isB])
  have rl := rngLen (env := [some (.ref i), some (.tup (bs.map .int)), some (.ref a), none, none, none, none]) (bs := bs.map .int) rfl (by simp [runD, sSeq, sRet, sIf, sSet, sEx, sSub, sNil, eVar, eC, eOp, eChain, tTruth, tBl, tNotM, tAndM, tOrM, eAndM, eOrM, eNotM, eIfM, aNil, aCons, eTup, eLst, mkLst, mkTup, eCB, eF, eSl, oPart, oNone, eUn, isB, truD, isiF, tyOf, subT, leD, ltD, gtD, geD, cmpD, lenF, lenN, neD, eqD, eqB, ofOpt, MM.keep, Res.bind, Res.toS, ixD, addD, subD, modD, fdivD, intF, List.replicate, setD, negD, mulD, sizeLine, sAsg, asg, asgs, items, sPar, n_add_mix, n_add_scale, n_add_swap, n_add_set, n_add_copy, n_mix_add, n_mix_scale, n_mix_swap, n_mix_set, n_mix_copy, n_scale_add, n_scale_mix, n_scale_swap, n_scale_set, n_scale_copy, n_swap_add, n_swap_mix, n_swap_scale, n_swap_set, n_swap_copy, n_set_add, n_set_mix, n_set_scale, n_set_swap, n_set_copy, n_copy_add, n_copy_mix, n_copy_scale, n_copy_swap, n_copy_set, i_add_addset, i_mix_addset, i_scale_addset, i_swap_addset, i_set_addset, i_copy_addset, i_add_setcopy, i_mix_setcopy, i_scale_setcopy, i_swap_setcopy, i_set_setcopy, i_copy_setcopy, i_add_mixcopy, i_mix_mixcopy, i_scale_mixcopy, i_swap_mixcopy, i_set_mixcopy, i_copy_mixcopy, MH.seq, listF, tupleF, allF, MF.bools_map, ixD2, dgetD, dkey, eDct, ePs, putDct, keysD, mergeD, putD, valD, gn1, gn0, gn00, gs10, gs01, aI0, aI1, aI2, aI3]; omega) h
  rw [List.length_map] at rl
  have eL := eLc_of (own := [6]) (t := .nm 6) (tt := tBl (eOp notInD (eVar 6) (eVar 2))) (te := eVar 6) rl e1
  have f1 : Fd i h h1 := Ext.fd f x1
  have s0 : sPar 3 4 (aCons (eLc (iRng1M (aCons (eCB lenF (aCons (eVar 1) aNil)) aNil)) (.nm 6) (tBl (eOp notInD (eVar 6) (eVar 2))) (eVar 6) [6]) (aCons (eLst aNil) aNil)) [some (.ref i), some (.tup (bs.map .int)), some (.ref a), none, none, none, none] h =
      .nx [some (.ref i), some (.tup (bs.map .int)), some (.ref a), some (.ref h.n), some (.ref h1.n), none, none] (h1.add (.lst [])) := by
    exact parTwo eL (by simp [runD, sSeq, sRet, sIf, sSet, sEx, sSub, sNil, eVar, eC, eOp, eChain, tTruth, tBl, tNotM, tAndM, tOrM, eAndM, eOrM, eNotM, eIfM, aNil, aCons, eTup, eLst, mkLst, mkTup, eCB, eF, eSl, oPart, oNone, eUn, isB, truD, isiF, tyOf, subT, leD, ltD, gtD, geD, cmpD, lenF, lenN, neD, eqD, eqB, ofOpt, MM.keep, Res.bind, Res.toS, ixD, addD, subD, modD, fdivD, intF, List.replicate, setD, negD, mulD, sizeLine, sAsg, asg, asgs, items, sPar, n_add_mix, n_add_scale, n_add_swap, n_add_set, n_add_copy, n_mix_add, n_mix_scale, n_mix_swap, n_mix_set, n_mix_copy, n_scale_add, n_scale_mix, n_scale_swap, n_scale_set, n_scale_copy, n_swap_add, n_swap_mix, n_swap_scale, n_swap_set, n_swap_copy, n_set_add, n_set_mix, n_set_scale, n_set_swap, n_set_copy, n_copy_add, n_copy_mix, n_copy_scale, n_copy_swap, n_copy_set, i_add_addset, i_mix_addset, i_scale_addset, i_swap_addset, i_set_addset, i_copy_addset, i_add_setcopy, i_mix_setcopy, i_scale_setcopy, i_swap_setcopy, i_set_setcopy, i_copy_setcopy, i_add_mixcopy, i_mix_mixcopy, i_scale_mixcopy, i_swap_mixcopy, i_set_mixcopy, i_copy_mixcopy, MH.seq, listF, tupleF, allF, MF.bools_map, ixD2, dgetD, dkey, eDct, ePs, putDct, keysD, mergeD, putD, valD, gn1, gn0, gn00, gs10, gs01, aI0, aI1, aI2, aI3])
  have f2 : Fd i h (h1.add (.lst [])) := f1.add _
  let L6 : List D := [.int 0, .int 0, .int 1, .int 1, .int 2, .int bs.length]
  obtain ⟨x, h3, m3, e3, f3, n3⟩ := pick (i := i) (j := h1.n + 1) (h := (h1.add (.lst [])).add (.lst L6)) (f2.add _).lt (f2.add _).fd (xs := L6) (MH.get_add_same (h1.add (.lst [])) _) (by omega) (by simp [runD, sSeq, sRet, sIf, sSet, sEx, sSub, sNil, eVar, eC, eOp, eChain, tTruth, tBl, tNotM, tAndM, tOrM, eAndM, eOrM, eNotM, eIfM, aNil, aCons, eTup, eLst, mkLst, mkTup, eCB, eF, eSl, oPart, oNone, eUn, isB, truD, isiF, tyOf, subT, leD, ltD, gtD, geD, cmpD, lenF, lenN, neD, eqD, eqB, ofOpt, MM.keep, Res.bind, Res.toS, ixD, addD, subD, modD, fdivD, intF, List.replicate, setD, negD, mulD, sizeLine, sAsg, asg, asgs, items, sPar, n_add_mix, n_add_scale, n_add_swap, n_add_set, n_add_copy, n_mix_add, n_mix_scale, n_mix_swap, n_mix_set, n_mix_copy, n_scale_add, n_scale_mix, n_scale_swap, n_scale_set, n_scale_copy, n_swap_add, n_swap_mix, n_swap_scale, n_swap_set, n_swap_copy, n_set_add, n_set_mix, n_set_scale, n_set_swap, n_set_copy, n_copy_add, n_copy_mix, n_copy_scale, n_copy_swap, n_copy_set, i_add_addset, i_mix_addset, i_scale_addset, i_swap_addset, i_set_addset, i_copy_addset, i_add_setcopy, i_mix_setcopy, i_scale_setcopy, i_swap_setcopy, i_set_setcopy, i_copy_setcopy, i_add_mixcopy, i_mix_mixcopy, i_scale_mixcopy, i_swap_mixcopy, i_set_mixcopy, i_copy_mixcopy, MH.seq, listF, tupleF, allF, MF.bools_map, ixD2, dgetD, dkey, eDct, ePs, putDct, keysD, mergeD, putD, valD, gn1, gn0, gn00, gs10, gs01, aI0, aI1, aI2, aI3]) (by simp [runD, sSeq, sRet, sIf, sSet, sEx, sSub, sNil, eVar, eC, eOp, eChain, tTruth, tBl, tNotM, tAndM, tOrM, eAndM, eOrM, eNotM, eIfM, aNil, aCons, eTup, eLst, mkLst, mkTup, eCB, eF, eSl, oPart, oNone, eUn, isB, truD, isiF, tyOf, subT, leD, ltD, gtD, geD, cmpD, lenF, lenN, neD, eqD, eqB, ofOpt, MM.keep, Res.bind, Res.toS, ixD, addD, subD, modD, fdivD, intF, List.replicate, setD, negD, mulD, sizeLine, sAsg, asg, asgs, items, sPar, n_add_mix, n_add_scale, n_add_swap, n_add_set, n_add_copy, n_mix_add, n_mix_scale, n_mix_swap, n_mix_set, n_mix_copy, n_scale_add, n_scale_mix, n_scale_swap, n_scale_set, n_scale_copy, n_swap_add, n_swap_mix, n_swap_scale, n_swap_set, n_swap_copy, n_set_add, n_set_mix, n_set_scale, n_set_swap, n_set_copy, n_copy_add, n_copy_mix, n_copy_scale, n_copy_swap, n_copy_set, i_add_addset, i_mix_addset, i_scale_addset, i_swap_addset, i_set_addset, i_copy_addset, i_add_setcopy, i_mix_setcopy, i_scale_setcopy, i_swap_setcopy, i_set_setcopy, i_copy_setcopy, i_add_mixcopy, i_mix_mixcopy, i_scale_mixcopy, i_swap_mixcopy, i_set_mixcopy, i_copy_mixcopy, MH.seq, listF, tupleF, allF, MF.bools_map, ixD2, dgetD, dkey, eDct, ePs, putDct, keysD, mergeD, putD, valD, gn1, gn0, gn00, gs10, gs01, aI0, aI1, aI2, aI3, L6]) (by simp [runD, sSeq, sRet, sIf, sSet, sEx, sSub, sNil, eVar, eC, eOp, eChain, tTruth, tBl, tNotM, tAndM, tOrM, eAndM, eOrM, eNotM, eIfM, aNil, aCons, eTup, eLst, mkLst, mkTup, eCB, eF, eSl, oPart, oNone, eUn, isB, truD, isiF, tyOf, subT, leD, ltD, gtD, geD, cmpD, lenF, lenN, neD, eqD, eqB, ofOpt, MM.keep, Res.bind, Res.toS, ixD, addD, subD, modD, fdivD, intF, List.replicate, setD, negD, mulD, sizeLine, sAsg, asg, asgs, items, sPar, n_add_mix, n_add_scale, n_add_swap, n_add_set, n_add_copy, n_mix_add, n_mix_scale, n_mix_swap, n_mix_set, n_mix_copy, n_scale_add, n_scale_mix, n_scale_swap, n_scale_set, n_scale_copy, n_swap_add, n_swap_mix, n_swap_scale, n_swap_set, n_swap_copy, n_set_add, n_set_mix, n_set_scale, n_set_swap, n_set_copy, n_copy_add, n_copy_mix, n_copy_scale, n_copy_swap, n_copy_set, i_add_addset, i_mix_addset, i_scale_addset, i_swap_addset, i_set_addset, i_copy_addset, i_add_setcopy, i_mix_setcopy, i_scale_setcopy, i_swap_setcopy, i_set_setcopy, i_copy_setcopy, i_add_mixcopy, i_mix_mixcopy, i_scale_mixcopy, i_swap_mixcopy, i_set_mixcopy, i_copy_mixcopy, MH.seq, listF, tupleF, allF, MF.bools_map, ixD2, dgetD, dkey, eDct, ePs, putDct, keysD, mergeD, putD, valD, gn1, gn0, gn00, gs10, gs01, aI0, aI1, aI2, aI3, L6])
  obtain ⟨m, rfl, hm⟩ : ∃ m : Nat, x = .int m ∧ m ≤ 6 := by
    simp only [L6, List.mem_cons, List.not_mem_nil, or_false] at m3
    rcases m3 with rfl | rfl | rfl | rfl | rfl | rfl
    · exact ⟨0, rfl, by decide⟩
    · exact ⟨0, rfl, by decide⟩
    · exact ⟨1, rfl, by decide⟩
    · exact ⟨1, rfl, by decide⟩
    · exact ⟨2, rfl, by decide⟩
    · exact ⟨bs.length, rfl, le⟩
  have f3' : Fd i h h3 := (f2.add _).trans f3
  have gf : h3.get h.n = some (.lst (fr.map .int)) := by
    rw [f3.ot _ (by omega) (by simp [runD, sSeq, sRet, sIf, sSet, sEx, sSub, sNil, eVar, eC, eOp, eChain, tTruth, tBl, tNotM, tAndM, tOrM, eAndM, eOrM, eNotM, eIfM, aNil, aCons, eTup, eLst, mkLst, mkTup, eCB, eF, eSl, oPart, oNone, eUn, isB, truD, isiF, tyOf, subT, leD, ltD, gtD, geD, cmpD, lenF, lenN, neD, eqD, eqB, ofOpt, MM.keep, Res.bind, Res.toS, ixD, addD, subD, modD, fdivD, intF, List.replicate, setD, negD, mulD, sizeLine, sAsg, asg, asgs, items, sPar, n_add_mix, n_add_scale, n_add_swap, n_add_set, n_add_copy, n_mix_add, n_mix_scale, n_mix_swap, n_mix_set, n_mix_copy, n_scale_add, n_scale_mix, n_scale_swap, n_scale_set, n_scale_copy, n_swap_add, n_swap_mix, n_swap_scale, n_swap_set, n_swap_copy, n_set_add, n_set_mix, n_set_scale, n_set_swap, n_set_copy, n_copy_add, n_copy_mix, n_copy_scale, n_copy_swap, n_copy_set, i_add_addset, i_mix_addset, i_scale_addset, i_swap_addset, i_set_addset, i_copy_addset, i_add_setcopy, i_mix_setcopy, i_scale_setcopy, i_swap_setcopy, i_set_setcopy, i_copy_setcopy, i_add_mixcopy, i_mix_mixcopy, i_scale_mixcopy, i_swap_mixcopy, i_set_mixcopy, i_copy_mixcopy, MH.seq, listF, tupleF, allF, MF.bools_map, ixD2, dgetD, dkey, eDct, ePs, putDct, keysD, mergeD, putD, valD, gn1, gn0, gn00, gs10, gs01, aI0, aI1, aI2, aI3]; omega), MH.get_add_ne _ _ (by simp [runD, sSeq, sRet, sIf, sSet, sEx, sSub, sNil, eVar, eC, eOp, eChain, tTruth, tBl, tNotM, tAndM, tOrM, eAndM, eOrM, eNotM, eIfM, aNil, aCons, eTup, eLst, mkLst, mkTup, eCB, eF, eSl, oPart, oNone, eUn, isB, truD, isiF, tyOf, subT, leD, ltD, gtD, geD, cmpD, lenF, lenN, neD, eqD, eqB, ofOpt, MM.keep, Res.bind, Res.toS, ixD, addD, subD, modD, fdivD, intF, List.replicate, setD, negD, mulD, sizeLine, sAsg, asg, asgs, items, sPar, n_add_mix, n_add_scale, n_add_swap, n_add_set, n_add_copy, n_mix_add, n_mix_scale, n_mix_swap, n_mix_set, n_mix_copy, n_scale_add, n_scale_mix, n_scale_swap, n_scale_set, n_scale_copy, n_swap_add, n_swap_mix, n_swap_scale, n_swap_set, n_swap_copy, n_set_add, n_set_mix, n_set_scale, n_set_swap, n_set_copy, n_copy_add, n_copy_mix, n_copy_scale, n_copy_swap, n_copy_set, i_add_addset, i_mix_addset, i_scale_addset, i_swap_addset, i_set_addset, i_copy_addset, i_add_setcopy, i_mix_setcopy, i_scale_setcopy, i_swap_setcopy, i_set_setcopy, i_copy_setcopy, i_add_mixcopy, i_mix_mixcopy, i_scale_mixcopy, i_swap_mixcopy, i_set_mixcopy, i_copy_mixcopy, MH.seq, listF, tupleF, allF, MF.bools_map, ixD2, dgetD, dkey, eDct, ePs, putDct, keysD, mergeD, putD, valD, gn1, gn0, gn00, gs10, gs01, aI0, aI1, aI2, aI3]; omega), MH.get_add_ne _ _ (by omega)]
    exact g1
  have gk : h3.get h1.n = some (.lst []) := by
    rw [f3.ot _ (by omega) (by simp [runD, sSeq, sRet, sIf, sSet, sEx, sSub, sNil, eVar, eC, eOp, eChain, tTruth, tBl, tNotM, tAndM, tOrM, eAndM, eOrM, eNotM, eIfM, aNil, aCons, eTup, eLst, mkLst, mkTup, eCB, eF, eSl, oPart, oNone, eUn, isB, truD, isiF, tyOf, subT, leD, ltD, gtD, geD, cmpD, lenF, lenN, neD, eqD, eqB, ofOpt, MM.keep, Res.bind, Res.toS, ixD, addD, subD, modD, fdivD, intF, List.replicate, setD, negD, mulD, sizeLine, sAsg, asg, asgs, items, sPar, n_add_mix, n_add_scale, n_add_swap, n_add_set, n_add_copy, n_mix_add, n_mix_scale, n_mix_swap, n_mix_set, n_mix_copy, n_scale_add, n_scale_mix, n_scale_swap, n_scale_set, n_scale_copy, n_swap_add, n_swap_mix, n_swap_scale, n_swap_set, n_swap_copy, n_set_add, n_set_mix, n_set_scale, n_set_swap, n_set_copy, n_copy_add, n_copy_mix, n_copy_scale, n_copy_swap, n_copy_set, i_add_addset, i_mix_addset, i_scale_addset, i_swap_addset, i_set_addset, i_copy_addset, i_add_setcopy, i_mix_setcopy, i_scale_setcopy, i_swap_setcopy, i_set_setcopy, i_copy_setcopy, i_add_mixcopy, i_mix_mixcopy, i_scale_mixcopy, i_swap_mixcopy, i_set_mixcopy, i_copy_mixcopy, MH.seq, listF, tupleF, allF, MF.bools_map, ixD2, dgetD, dkey, eDct, ePs, putDct, keysD, mergeD, putD, valD, gn1, gn0, gn00, gs10, gs01, aI0, aI1, aI2, aI3] <;> omega), MH.get_add_ne _ _ (by simp [runD, sSeq, sRet, sIf, sSet, sEx, sSub, sNil, eVar, eC, eOp, eChain, tTruth, tBl, tNotM, tAndM, tOrM, eAndM, eOrM, eNotM, eIfM, aNil, aCons, eTup, eLst, mkLst, mkTup, eCB, eF, eSl, oPart, oNone, eUn, isB, truD, isiF, tyOf, subT, leD, ltD, gtD, geD, cmpD, lenF, lenN, neD, eqD, eqB, ofOpt, MM.keep, Res.bind, Res.toS, ixD, addD, subD, modD, fdivD, intF, List.replicate, setD, negD, mulD, sizeLine, sAsg, asg, asgs, items, sPar, n_add_mix, n_add_scale, n_add_swap, n_add_set, n_add_copy, n_mix_add, n_mix_scale, n_mix_swap, n_mix_set, n_mix_copy, n_scale_add, n_scale_mix, n_scale_swap, n_scale_set, n_scale_copy, n_swap_add, n_swap_mix, n_swap_scale, n_swap_set, n_swap_copy, n_set_add, n_set_mix, n_set_scale, n_set_swap, n_set_copy, n_copy_add, n_copy_mix, n_copy_scale, n_copy_swap, n_copy_set, i_add_addset, i_mix_addset, i_scale_addset, i_swap_addset, i_set_addset, i_copy_addset, i_add_setcopy, i_mix_setcopy, i_scale_setcopy, i_swap_setcopy, i_set_setcopy, i_copy_setcopy, i_add_mixcopy, i_mix_mixcopy, i_scale_mixcopy, i_swap_mixcopy, i_set_mixcopy, i_copy_mixcopy, MH.seq, listF, tupleF, allF, MF.bools_map, ixD2, dgetD, dkey, eDct, ePs, putDct, keysD, mergeD, putD, valD, gn1, gn0, gn00, gs10, gs01, aI0, aI1, aI2, aI3] <;> omega)]
    exact MH.get_add_same h1 _
  have n3' : h3.n = h1.n + 2 := n3
  obtain ⟨e', h5, l5, I5⟩ := forL_spec (it := .rng 0 m) (t := .nm 5) (body := bodyC) (fun k env h' => InC i h.n h1.n bs (some (.ref a)) h k env h')
    (e0 := [some (.ref i), some (.tup (bs.map .int)), some (.ref a), some (.ref h.n), some (.ref h1.n), none, none]) (h0 := h3)
    ⟨⟨_, _, rfl⟩, f3', ⟨by omega, by omega, by omega, by omega, by omega, Nat.le_refl _, by omega⟩, ⟨fr, gf, by omega, fun o ho => ⟨(m1 o ho).1, (m1 o ho).2.1⟩⟩, ⟨[], gk, Nat.le_refl _, by simp [runD, sSeq, sRet, sIf, sSet, sEx, sSub, sNil, eVar, eC, eOp, eChain, tTruth, tBl, tNotM, tAndM, tOrM, eAndM, eOrM, eNotM, eIfM, aNil, aCons, eTup, eLst, mkLst, mkTup, eCB, eF, eSl, oPart, oNone, eUn, isB, truD, isiF, tyOf, subT, leD, ltD, gtD, geD, cmpD, lenF, lenN, neD, eqD, eqB, ofOpt, MM.keep, Res.bind, Res.toS, ixD, addD, subD, modD, fdivD, intF, List.replicate, setD, negD, mulD, sizeLine, sAsg, asg, asgs, items, sPar, n_add_mix, n_add_scale, n_add_swap, n_add_set, n_add_copy, n_mix_add, n_mix_scale, n_mix_swap, n_mix_set, n_mix_copy, n_scale_add, n_scale_mix, n_scale_swap, n_scale_set, n_scale_copy, n_swap_add, n_swap_mix, n_swap_scale, n_swap_set, n_swap_copy, n_set_add, n_set_mix, n_set_scale, n_set_swap, n_set_copy, n_copy_add, n_copy_mix, n_copy_scale, n_copy_swap, n_copy_set, i_add_addset, i_mix_addset, i_scale_addset, i_swap_addset, i_set_addset, i_copy_addset, i_add_setcopy, i_mix_setcopy, i_scale_setcopy, i_swap_setcopy, i_set_setcopy, i_copy_setcopy, i_add_mixcopy, i_mix_mixcopy, i_scale_mixcopy, i_swap_mixcopy, i_set_mixcopy, i_copy_mixcopy, MH.seq, listF, tupleF, allF, MF.bools_map, ixD2, dgetD, dkey, eDct, ePs, putDct, keysD, mergeD, putD, valD, gn1, gn0, gn00, gs10, gs01, aI0, aI1, aI2, aI3]⟩⟩
    (fun k env h' hk I => by
      have hk' : k < m := hk
      obtain ⟨⟨x5, x6, rfl⟩, w1, w2, w3, w4⟩ := I
      obtain ⟨e2, h2, b1, b2⟩ := turnC (k := k) (env := [some (.ref i), some (.tup (bs.map .int)), some (.ref a), some (.ref h.n), some (.ref h1.n), some (.int (0 + k)), x6]) (h := h') s (by omega) ⟨⟨_, _, rfl⟩, w1, w2, w3, w4⟩
      exact ⟨.int (0 + k), _, rfl, rfl, .inl ⟨e2, h2, b1, b2⟩⟩)
    (fun _ _ _ => rfl)
  obtain ⟨⟨x5, x6, rfl⟩, fd5, li5, _, ⟨cs, g5, c5, d5⟩⟩ := I5
  obtain ⟨cs', hc, so⟩ := sorts g5 (n := bs.length) ⟨by simp [runD, sSeq, sRet, sIf, sSet, sEx, sSub, sNil, eVar, eC, eOp, eChain, tTruth, tBl, tNotM, tAndM, tOrM, eAndM, eOrM, eNotM, eIfM, aNil, aCons, eTup, eLst, mkLst, mkTup, eCB, eF, eSl, oPart, oNone, eUn, isB, truD, isiF, tyOf, subT, leD, ltD, gtD, geD, cmpD, lenF, lenN, neD, eqD, eqB, ofOpt, MM.keep, Res.bind, Res.toS, ixD, addD, subD, modD, fdivD, intF, List.replicate, setD, negD, mulD, sizeLine, sAsg, asg, asgs, items, sPar, n_add_mix, n_add_scale, n_add_swap, n_add_set, n_add_copy, n_mix_add, n_mix_scale, n_mix_swap, n_mix_set, n_mix_copy, n_scale_add, n_scale_mix, n_scale_swap, n_scale_set, n_scale_copy, n_swap_add, n_swap_mix, n_swap_scale, n_swap_set, n_swap_copy, n_set_add, n_set_mix, n_set_scale, n_set_swap, n_set_copy, n_copy_add, n_copy_mix, n_copy_scale, n_copy_swap, n_copy_set, i_add_addset, i_mix_addset, i_scale_addset, i_swap_addset, i_set_addset, i_copy_addset, i_add_setcopy, i_mix_setcopy, i_scale_setcopy, i_swap_setcopy, i_set_setcopy, i_copy_setcopy, i_add_mixcopy, i_mix_mixcopy, i_scale_mixcopy, i_swap_mixcopy, i_set_mixcopy, i_copy_mixcopy, MH.seq, listF, tupleF, allF, MF.bools_map, ixD2, dgetD, dkey, eDct, ePs, putDct, keysD, mergeD, putD, valD, gn1, gn0, gn00, gs10, gs01, aI0, aI1, aI2, aI3, MI.n] at c5; omega, d5⟩
  have it : iRng1M (aCons (eF m__law_pick (aCons (eVar 0) (aCons (eLst (aCons (eC (.int (0))) (aCons (eC (.int (0))) (aCons (eC (.int (1))) (aCons (eC (.int (1))) (aCons (eC (.int (2))) (aCons (eCB lenF (aCons (eVar 1) aNil)) aNil))))))) aNil))) aNil)
      [some (.ref i), some (.tup (bs.map .int)), some (.ref a), some (.ref h.n), some (.ref h1.n), none, none] (h1.add (.lst [])) = .ok (.rng 0 m) h3 := by
    have bd : -(2 ^ 62) ≤ (m : Int) ∧ (m : Int) < 2 ^ 62 := by omega
    have le6 : eLst (aCons (eC (.int (0))) (aCons (eC (.int (0))) (aCons (eC (.int (1))) (aCons (eC (.int (1))) (aCons (eC (.int (2))) (aCons (eCB lenF (aCons (eVar 1) aNil)) aNil))))))
        [some (.ref i), some (.tup (bs.map .int)), some (.ref a), some (.ref h.n), some (.ref h1.n), none, none] (h1.add (.lst [])) = .ok (.ref (h1.n + 1)) ((h1.add (.lst [])).add (.lst L6)) := by
      simp [runD, sSeq, sRet, sIf, sSet, sEx, sSub, sNil, eVar, eC, eOp, eChain, tTruth, tBl, tNotM, tAndM, tOrM, eAndM, eOrM, eNotM, eIfM, aNil, aCons, eTup, eLst, mkLst, mkTup, eCB, eF, eSl, oPart, oNone, eUn, isB, truD, isiF, tyOf, subT, leD, ltD, gtD, geD, cmpD, lenF, lenN, neD, eqD, eqB, ofOpt, MM.keep, Res.bind, Res.toS, ixD, addD, subD, modD, fdivD, intF, List.replicate, setD, negD, mulD, sizeLine, sAsg, asg, asgs, items, sPar, n_add_mix, n_add_scale, n_add_swap, n_add_set, n_add_copy, n_mix_add, n_mix_scale, n_mix_swap, n_mix_set, n_mix_copy, n_scale_add, n_scale_mix, n_scale_swap, n_scale_set, n_scale_copy, n_swap_add, n_swap_mix, n_swap_scale, n_swap_set, n_swap_copy, n_set_add, n_set_mix, n_set_scale, n_set_swap, n_set_copy, n_copy_add, n_copy_mix, n_copy_scale, n_copy_swap, n_copy_set, i_add_addset, i_mix_addset, i_scale_addset, i_swap_addset, i_set_addset, i_copy_addset, i_add_setcopy, i_mix_setcopy, i_scale_setcopy, i_swap_setcopy, i_set_setcopy, i_copy_setcopy, i_add_mixcopy, i_mix_mixcopy, i_scale_mixcopy, i_swap_mixcopy, i_set_mixcopy, i_copy_mixcopy, MH.seq, listF, tupleF, allF, MF.bools_map, ixD2, dgetD, dkey, eDct, ePs, putDct, keysD, mergeD, putD, valD, gn1, gn0, gn00, gs10, gs01, aI0, aI1, aI2, aI3, L6]
    simp only [iRng1M, aCons, aNil, eF, eVar, List.getElem?_cons_succ, List.getElem?_cons_zero, Res.bind, le6, e3]
    rw [if_pos bd]
    rfl
  refine ⟨cs', h5.add (.lst (cD cs')), runD_rt ((sSeq_nx s0).trans ((sSeq_nx (e := [some (.ref i), some (.tup (bs.map .int)), some (.ref a), some (.ref h.n), some (.ref h1.n), x5, x6]) (h1 := h5) ?_).trans ?_)), hc, fd5.add _⟩
  · unfold sFor
    rw [it]
    exact l5
  · have sq := MH.seq_lst (MH.get_add_same h5 (.lst (cD cs')))
    simp only [sRet, eCB, aCons, aNil, eVar, List.getElem?_cons_succ, List.getElem?_cons_zero, Res.bind, so, ofOpt, tupleF, sq, Option.map_some, Res.toS]
end K03

set_option Elab.async false
set_option linter.all false
set_option maxRecDepth 100000
set_option maxHeartbeats 4000000
set_option autoImplicit false
namespace K03
open PySem PySem.Spec PyProof.Rows L2 MM
def wordsD : List D := [D.str (Str.ofString "add"), .str (Str.ofString "mix"), .str (Str.ofString "mix"), .str (Str.ofString "scale"), .str (Str.ofString "swap"), .str (Str.ofString "set"), .str (Str.ofString "copy")]
theorem row {i wr : Nat} {bs : List Int} (s : Sh bs) {h : MH} (f : Fd i h h) (gw : h.get wr = some (.lst wordsD)) (lw : wr < h.n) (nw : wr ≠ i) :
    ∃ (act : List D) (cs : List (Nat × Int)) (h' : MH), m__law_row [.ref i, .tup (bs.map .int), .ref wr] h = .ok (.tup [.tup act, .tup (cD cs)]) h' ∧ Act bs act ∧ Conds bs.length cs ∧ Fd i h h' := by
  obtain ⟨w, h1, m1, e1, f1, n1⟩ := pick f.lt f.fd gw nw lw (by simp [runD, sSeq, sRet, sIf, sSet, sEx, sSub, sNil, eVar, eC, eOp, eChain, tTruth, tBl, tNotM, tAndM, tOrM, eAndM, eOrM, eNotM, eIfM, aNil, aCons, eTup, eLst, mkLst, mkTup, eCB, eF, eSl, oPart, oNone, eUn, isB, truD, isiF, tyOf, subT, leD, ltD, gtD, geD, cmpD, lenF, lenN, neD, eqD, eqB, ofOpt, MM.keep, Res.bind, Res.toS, ixD, addD, subD, modD, fdivD, intF, List.replicate, setD, negD, mulD, sizeLine, sAsg, asg, asgs, items, sPar, n_add_mix, n_add_scale, n_add_swap, n_add_set, n_add_copy, n_mix_add, n_mix_scale, n_mix_swap, n_mix_set, n_mix_copy, n_scale_add, n_scale_mix, n_scale_swap, n_scale_set, n_scale_copy, n_swap_add, n_swap_mix, n_swap_scale, n_swap_set, n_swap_copy, n_set_add, n_set_mix, n_set_scale, n_set_swap, n_set_copy, n_copy_add, n_copy_mix, n_copy_scale, n_copy_swap, n_copy_set, i_add_addset, i_mix_addset, i_scale_addset, i_swap_addset, i_set_addset, i_copy_addset, i_add_setcopy, i_mix_setcopy, i_scale_setcopy, i_swap_setcopy, i_set_setcopy, i_copy_setcopy, i_add_mixcopy, i_mix_mixcopy, i_scale_mixcopy, i_swap_mixcopy, i_set_mixcopy, i_copy_mixcopy, MH.seq, listF, tupleF, allF, MF.bools_map, ixD2, dgetD, dkey, eDct, ePs, putDct, keysD, mergeD, putD, valD, gn1, gn0, gn00, gs10, gs01, aI0, aI1, aI2, aI3, wordsD]) (by simp [runD, sSeq, sRet, sIf, sSet, sEx, sSub, sNil, eVar, eC, eOp, eChain, tTruth, tBl, tNotM, tAndM, tOrM, eAndM, eOrM, eNotM, eIfM, aNil, aCons, eTup, eLst, mkLst, mkTup, eCB, eF, eSl, oPart, oNone, eUn, isB, truD, isiF, tyOf, subT, leD, ltD, gtD, geD, cmpD, lenF, lenN, neD, eqD, eqB, ofOpt, MM.keep, Res.bind, Res.toS, ixD, addD, subD, modD, fdivD, intF, List.replicate, setD, negD, mulD, sizeLine, sAsg, asg, asgs, items, sPar, n_add_mix, n_add_scale, n_add_swap, n_add_set, n_add_copy, n_mix_add, n_mix_scale, n_mix_swap, n_mix_set, n_mix_copy, n_scale_add, n_scale_mix, n_scale_swap, n_scale_set, n_scale_copy, n_swap_add, n_swap_mix, n_swap_scale, n_swap_set, n_swap_copy, n_set_add, n_set_mix, n_set_scale, n_set_swap, n_set_copy, n_copy_add, n_copy_mix, n_copy_scale, n_copy_swap, n_copy_set, i_add_addset, i_mix_addset, i_scale_addset, i_swap_addset, i_set_addset, i_copy_addset, i_add_setcopy, i_mix_setcopy, i_scale_setcopy, i_swap_setcopy, i_set_setcopy, i_copy_setcopy, i_add_mixcopy, i_mix_mixcopy, i_scale_mixcopy, i_swap_mixcopy, i_set_mixcopy, i_copy_mixcopy, MH.seq, listF, tupleF, allF, MF.bools_map, ixD2, dgetD, dkey, eDct, ePs, putDct, keysD, mergeD, putD, valD, gn1, gn0, gn00, gs10, gs01, aI0, aI1, aI2, aI3, wordsD])
  have ge := s.ge
  have le := s.le
  obtain ⟨r, h2, r0, r1, e2, f2, n2⟩ := take f1.lt f1.fd (m := (bs.length : Int)) (by omega) (by omega)
  obtain ⟨index, rfl⟩ := Int.eq_ofNat_of_zero_le r0
  obtain ⟨act, h3, e3, a3, f3⟩ := action s (index := index) (by omega) m1 h2 f2.self
  have ff : Fd i h h3 := f1.trans (f2.trans f3)
  have s0 : sSet 3 (eF m__law_action (aCons (eVar 0) (aCons (eVar 1) (aCons (eF m__law_pick (aCons (eVar 0) (aCons (eVar 2) aNil))) (aCons (eF m__law_take (aCons (eVar 0) (aCons (eCB lenF (aCons (eVar 1) aNil)) aNil))) aNil)))))
      [some (.ref i), some (.tup (bs.map .int)), some (.ref wr), none, none] h = .nx [some (.ref i), some (.tup (bs.map .int)), some (.ref wr), some (.tup act), none] h3 := by
    have ln := lenE (k := 1) (xs := bs.map D.int) (env := [some (.ref i), some (.tup (bs.map .int)), some (.ref wr), none, none]) (h := h1) rfl
    rw [List.length_map] at ln
    exact sSet_ok (eF4 (h1 := h) (h2 := h) rfl rfl (eF2 (h1 := h) (h2 := h) rfl rfl e1) (eF2 (h1 := h1) (h2 := h1) rfl ln e2) e3)
  have altered : ∃ as : List Int, sSet 4 (eIfM (tBl (eOp eqD (eOp ixD (eVar 3) (eC (.int (0)))) (eC (.str (Str.ofString "swap"))))) (eLst (aCons (eOp ixD (eVar 3) (eC (.int (1)))) (aCons (eOp ixD (eVar 3) (eC (.int (2)))) aNil))) (eLst (aCons (eOp ixD (eVar 3) (eC (.int (1)))) aNil)))
      [some (.ref i), some (.tup (bs.map .int)), some (.ref wr), some (.tup act), none] h3 = .nx [some (.ref i), some (.tup (bs.map .int)), some (.ref wr), some (.tup act), some (.ref h3.n)] (h3.add (.lst (as.map .int))) := by
    cases a3 with
    | @swap x y => exact ⟨[x, y], by simp [runD, sSeq, sRet, sIf, sSet, sEx, sSub, sNil, eVar, eC, eOp, eChain, tTruth, tBl, tNotM, tAndM, tOrM, eAndM, eOrM, eNotM, eIfM, aNil, aCons, eTup, eLst, mkLst, mkTup, eCB, eF, eSl, oPart, oNone, eUn, isB, truD, isiF, tyOf, subT, leD, ltD, gtD, geD, cmpD, lenF, lenN, neD, eqD, eqB, ofOpt, MM.keep, Res.bind, Res.toS, ixD, addD, subD, modD, fdivD, intF, List.replicate, setD, negD, mulD, sizeLine, sAsg, asg, asgs, items, sPar, n_add_mix, n_add_scale, n_add_swap, n_add_set, n_add_copy, n_mix_add, n_mix_scale, n_mix_swap, n_mix_set, n_mix_copy, n_scale_add, n_scale_mix, n_scale_swap, n_scale_set, n_scale_copy, n_swap_add, n_swap_mix, n_swap_scale, n_swap_set, n_swap_copy, n_set_add, n_set_mix, n_set_scale, n_set_swap, n_set_copy, n_copy_add, n_copy_mix, n_copy_scale, n_copy_swap, n_copy_set, i_add_addset, i_mix_addset, i_scale_addset, i_swap_addset, i_set_addset, i_copy_addset, i_add_setcopy, i_mix_setcopy, i_scale_setcopy, i_swap_setcopy, i_set_setcopy, i_copy_setcopy, i_add_mixcopy, i_mix_mixcopy, i_scale_mixcopy, i_swap_mixcopy, i_set_mixcopy, i_copy_mixcopy, MH.seq, listF, tupleF, allF, MF.bools_map, ixD2, dgetD, dkey, eDct, ePs, putDct, keysD, mergeD, putD, valD, gn1, gn0, gn00, gs10, gs01, aI0, aI1, aI2, aI3]⟩
    | @add x => exact ⟨[x], by simp [runD, sSeq, sRet, sIf, sSet, sEx, sSub, sNil, eVar, eC, eOp, eChain, tTruth, tBl, tNotM, tAndM, tOrM, eAndM, eOrM, eNotM, eIfM, aNil, aCons, eTup, eLst, mkLst, mkTup, eCB, eF, eSl, oPart, oNone, eUn, isB, truD, isiF, tyOf, subT, leD, ltD, gtD, geD, cmpD, lenF, lenN, neD, eqD, eqB, ofOpt, MM.keep, Res.bind, Res.toS, ixD, addD, subD, modD, fdivD, intF, List.replicate, setD, negD, mulD, sizeLine, sAsg, asg, asgs, items, sPar, n_add_mix, n_add_scale, n_add_swap, n_add_set, n_add_copy, n_mix_add, n_mix_scale, n_mix_swap, n_mix_set, n_mix_copy, n_scale_add, n_scale_mix, n_scale_swap, n_scale_set, n_scale_copy, n_swap_add, n_swap_mix, n_swap_scale, n_swap_set, n_swap_copy, n_set_add, n_set_mix, n_set_scale, n_set_swap, n_set_copy, n_copy_add, n_copy_mix, n_copy_scale, n_copy_swap, n_copy_set, i_add_addset, i_mix_addset, i_scale_addset, i_swap_addset, i_set_addset, i_copy_addset, i_add_setcopy, i_mix_setcopy, i_scale_setcopy, i_swap_setcopy, i_set_setcopy, i_copy_setcopy, i_add_mixcopy, i_mix_mixcopy, i_scale_mixcopy, i_swap_mixcopy, i_set_mixcopy, i_copy_mixcopy, MH.seq, listF, tupleF, allF, MF.bools_map, ixD2, dgetD, dkey, eDct, ePs, putDct, keysD, mergeD, putD, valD, gn1, gn0, gn00, gs10, gs01, aI0, aI1, aI2, aI3]⟩
    | @mix x => exact ⟨[x], by simp [runD, sSeq, sRet, sIf, sSet, sEx, sSub, sNil, eVar, eC, eOp, eChain, tTruth, tBl, tNotM, tAndM, tOrM, eAndM, eOrM, eNotM, eIfM, aNil, aCons, eTup, eLst, mkLst, mkTup, eCB, eF, eSl, oPart, oNone, eUn, isB, truD, isiF, tyOf, subT, leD, ltD, gtD, geD, cmpD, lenF, lenN, neD, eqD, eqB, ofOpt, MM.keep, Res.bind, Res.toS, ixD, addD, subD, modD, fdivD, intF, List.replicate, setD, negD, mulD, sizeLine, sAsg, asg, asgs, items, sPar, n_add_mix, n_add_scale, n_add_swap, n_add_set, n_add_copy, n_mix_add, n_mix_scale, n_mix_swap, n_mix_set, n_mix_copy, n_scale_add, n_scale_mix, n_scale_swap, n_scale_set, n_scale_copy, n_swap_add, n_swap_mix, n_swap_scale, n_swap_set, n_swap_copy, n_set_add, n_set_mix, n_set_scale, n_set_swap, n_set_copy, n_copy_add, n_copy_mix, n_copy_scale, n_copy_swap, n_copy_set, i_add_addset, i_mix_addset, i_scale_addset, i_swap_addset, i_set_addset, i_copy_addset, i_add_setcopy, i_mix_setcopy, i_scale_setcopy, i_swap_setcopy, i_set_setcopy, i_copy_setcopy, i_add_mixcopy, i_mix_mixcopy, i_scale_mixcopy, i_swap_mixcopy, i_set_mixcopy, i_copy_mixcopy, MH.seq, listF, tupleF, allF, MF.bools_map, ixD2, dgetD, dkey, eDct, ePs, putDct, keysD, mergeD, putD, valD, gn1, gn0, gn00, gs10, gs01, aI0, aI1, aI2, aI3]⟩
    | @scale x => exact ⟨[x], by simp [runD, sSeq, sRet, sIf, sSet, sEx, sSub, sNil, eVar, eC, eOp, eChain, tTruth, tBl, tNotM, tAndM, tOrM, eAndM, eOrM, eNotM, eIfM, aNil, aCons, eTup, eLst, mkLst, mkTup, eCB, eF, eSl, oPart, oNone, eUn, isB, truD, isiF, tyOf, subT, leD, ltD, gtD, geD, cmpD, lenF, lenN, neD, eqD, eqB, ofOpt, MM.keep, Res.bind, Res.toS, ixD, addD, subD, modD, fdivD, intF, List.replicate, setD, negD, mulD, sizeLine, sAsg, asg, asgs, items, sPar, n_add_mix, n_add_scale, n_add_swap, n_add_set, n_add_copy, n_mix_add, n_mix_scale, n_mix_swap, n_mix_set, n_mix_copy, n_scale_add, n_scale_mix, n_scale_swap, n_scale_set, n_scale_copy, n_swap_add, n_swap_mix, n_swap_scale, n_swap_set, n_swap_copy, n_set_add, n_set_mix, n_set_scale, n_set_swap, n_set_copy, n_copy_add, n_copy_mix, n_copy_scale, n_copy_swap, n_copy_set, i_add_addset, i_mix_addset, i_scale_addset, i_swap_addset, i_set_addset, i_copy_addset, i_add_setcopy, i_mix_setcopy, i_scale_setcopy, i_swap_setcopy, i_set_setcopy, i_copy_setcopy, i_add_mixcopy, i_mix_mixcopy, i_scale_mixcopy, i_swap_mixcopy, i_set_mixcopy, i_copy_mixcopy, MH.seq, listF, tupleF, allF, MF.bools_map, ixD2, dgetD, dkey, eDct, ePs, putDct, keysD, mergeD, putD, valD, gn1, gn0, gn00, gs10, gs01, aI0, aI1, aI2, aI3]⟩
    | @set x => exact ⟨[x], by simp [runD, sSeq, sRet, sIf, sSet, sEx, sSub, sNil, eVar, eC, eOp, eChain, tTruth, tBl, tNotM, tAndM, tOrM, eAndM, eOrM, eNotM, eIfM, aNil, aCons, eTup, eLst, mkLst, mkTup, eCB, eF, eSl, oPart, oNone, eUn, isB, truD, isiF, tyOf, subT, leD, ltD, gtD, geD, cmpD, lenF, lenN, neD, eqD, eqB, ofOpt, MM.keep, Res.bind, Res.toS, ixD, addD, subD, modD, fdivD, intF, List.replicate, setD, negD, mulD, sizeLine, sAsg, asg, asgs, items, sPar, n_add_mix, n_add_scale, n_add_swap, n_add_set, n_add_copy, n_mix_add, n_mix_scale, n_mix_swap, n_mix_set, n_mix_copy, n_scale_add, n_scale_mix, n_scale_swap, n_scale_set, n_scale_copy, n_swap_add, n_swap_mix, n_swap_scale, n_swap_set, n_swap_copy, n_set_add, n_set_mix, n_set_scale, n_set_swap, n_set_copy, n_copy_add, n_copy_mix, n_copy_scale, n_copy_swap, n_copy_set, i_add_addset, i_mix_addset, i_scale_addset, i_swap_addset, i_set_addset, i_copy_addset, i_add_setcopy, i_mix_setcopy, i_scale_setcopy, i_swap_setcopy, i_set_setcopy, i_copy_setcopy, i_add_mixcopy, i_mix_mixcopy, i_scale_mixcopy, i_swap_mixcopy, i_set_mixcopy, i_copy_mixcopy, MH.seq, listF, tupleF, allF, MF.bools_map, ixD2, dgetD, dkey, eDct, ePs, putDct, keysD, mergeD, putD, valD, gn1, gn0, gn00, gs10, gs01, aI0, aI1, aI2, aI3]⟩
    | @copy x => exact ⟨[x], by simp [runD, sSeq, sRet, sIf, sSet, sEx, sSub, sNil, eVar, eC, eOp, eChain, tTruth, tBl, tNotM, tAndM, tOrM, eAndM, eOrM, eNotM, eIfM, aNil, aCons, eTup, eLst, mkLst, mkTup, eCB, eF, eSl, oPart, oNone, eUn, isB, truD, isiF, tyOf, subT, leD, ltD, gtD, geD, cmpD, lenF, lenN, neD, eqD, eqB, ofOpt, MM.keep, Res.bind, Res.toS, ixD, addD, subD, modD, fdivD, intF, List.replicate, setD, negD, mulD, sizeLine, sAsg, asg, asgs, items, sPar, n_add_mix, n_add_scale, n_add_swap, n_add_set, n_add_copy, n_mix_add, n_mix_scale, n_mix_swap, n_mix_set, n_mix_copy, n_scale_add, n_scale_mix, n_scale_swap, n_scale_set, n_scale_copy, n_swap_add, n_swap_mix, n_swap_scale, n_swap_set, n_swap_copy, n_set_add, n_set_mix, n_set_scale, n_set_swap, n_set_copy, n_copy_add, n_copy_mix, n_copy_scale, n_copy_swap, n_copy_set, i_add_addset, i_mix_addset, i_scale_addset, i_swap_addset, i_set_addset, i_copy_addset, i_add_setcopy, i_mix_setcopy, i_scale_setcopy, i_swap_setcopy, i_set_setcopy, i_copy_setcopy, i_add_mixcopy, i_mix_mixcopy, i_scale_mixcopy, i_swap_mixcopy, i_set_mixcopy, i_copy_mixcopy, MH.seq, listF, tupleF, allF, MF.bools_map, ixD2, dgetD, dkey, eDct, ePs, putDct, keysD, mergeD, putD, valD, gn1, gn0, gn00, gs10, gs01, aI0, aI1, aI2, aI3]⟩
  obtain ⟨as, s1⟩ := altered
  have f4 : Fd i h (h3.add (.lst (as.map .int))) := ff.add _
  obtain ⟨cs, h5, e5, c5, f5⟩ := conditions s f4.self (MH.get_add_same h3 (.lst (as.map .int))) (by simp [runD, sSeq, sRet, sIf, sSet, sEx, sSub, sNil, eVar, eC, eOp, eChain, tTruth, tBl, tNotM, tAndM, tOrM, eAndM, eOrM, eNotM, eIfM, aNil, aCons, eTup, eLst, mkLst, mkTup, eCB, eF, eSl, oPart, oNone, eUn, isB, truD, isiF, tyOf, subT, leD, ltD, gtD, geD, cmpD, lenF, lenN, neD, eqD, eqB, ofOpt, MM.keep, Res.bind, Res.toS, ixD, addD, subD, modD, fdivD, intF, List.replicate, setD, negD, mulD, sizeLine, sAsg, asg, asgs, items, sPar, n_add_mix, n_add_scale, n_add_swap, n_add_set, n_add_copy, n_mix_add, n_mix_scale, n_mix_swap, n_mix_set, n_mix_copy, n_scale_add, n_scale_mix, n_scale_swap, n_scale_set, n_scale_copy, n_swap_add, n_swap_mix, n_swap_scale, n_swap_set, n_swap_copy, n_set_add, n_set_mix, n_set_scale, n_set_swap, n_set_copy, n_copy_add, n_copy_mix, n_copy_scale, n_copy_swap, n_copy_set, i_add_addset, i_mix_addset, i_scale_addset, i_swap_addset, i_set_addset, i_copy_addset, i_add_setcopy, i_mix_setcopy, i_scale_setcopy, i_swap_setcopy, i_set_setcopy, i_copy_setcopy, i_add_mixcopy, i_mix_mixcopy, i_scale_mixcopy, i_swap_mixcopy, i_set_mixcopy, i_copy_mixcopy, MH.seq, listF, tupleF, allF, MF.bools_map, ixD2, dgetD, dkey, eDct, ePs, putDct, keysD, mergeD, putD, valD, gn1, gn0, gn00, gs10, gs01, aI0, aI1, aI2, aI3]) (by have := ff.lt; omega)
  refine ⟨act, cs, h5, runD_rt ((sSeq_nx s0).trans ((sSeq_nx s1).trans ?_)), a3, c5, f4.trans f5⟩
  have tw := twoT (m := eVar 3) (m2 := eF m__law_conditions (aCons (eVar 0) (aCons (eVar 1) (aCons (eVar 4) aNil)))) (a := .tup act) (b := .tup (cD cs)) (env := [some (.ref i), some (.tup (bs.map .int)), some (.ref wr), some (.tup act), some (.ref h3.n)]) (h := h3.add (.lst (as.map .int))) (h1 := h3.add (.lst (as.map .int))) (h2 := h5) rfl
    (eF3 (h1 := h3.add (.lst (as.map .int))) (h2 := h3.add (.lst (as.map .int))) (h3 := h3.add (.lst (as.map .int))) rfl rfl rfl e5)
  unfold sRet
  rw [tw]
  rfl
theorem tame_ints {f : Nat} {ds : List Int} (h : ∀ v ∈ ds, 0 ≤ v ∧ v < 70) : tames f (ds.map D.int) = true := by
  rw [tames_iff]
  intro d hd
  obtain ⟨v, hv, rfl⟩ := List.mem_map.mp hd
  have := h v hv
  have l := MF.log_le (i := v) (by omega) (by omega)
  cases f <;> simpa [runD, sSeq, sRet, sIf, sSet, sEx, sSub, sNil, eVar, eC, eOp, eChain, tTruth, tBl, tNotM, tAndM, tOrM, eAndM, eOrM, eNotM, eIfM, aNil, aCons, eTup, eLst, mkLst, mkTup, eCB, eF, eSl, oPart, oNone, eUn, isB, truD, isiF, tyOf, subT, leD, ltD, gtD, geD, cmpD, lenF, lenN, neD, eqD, eqB, ofOpt, MM.keep, Res.bind, Res.toS, ixD, addD, subD, modD, fdivD, intF, List.replicate, setD, negD, mulD, sizeLine, sAsg, asg, asgs, items, sPar, n_add_mix, n_add_scale, n_add_swap, n_add_set, n_add_copy, n_mix_add, n_mix_scale, n_mix_swap, n_mix_set, n_mix_copy, n_scale_add, n_scale_mix, n_scale_swap, n_scale_set, n_scale_copy, n_swap_add, n_swap_mix, n_swap_scale, n_swap_set, n_swap_copy, n_set_add, n_set_mix, n_set_scale, n_set_swap, n_set_copy, n_copy_add, n_copy_mix, n_copy_scale, n_copy_swap, n_copy_set, i_add_addset, i_mix_addset, i_scale_addset, i_swap_addset, i_set_addset, i_copy_addset, i_add_setcopy, i_mix_setcopy, i_scale_setcopy, i_swap_setcopy, i_set_setcopy, i_copy_setcopy, i_add_mixcopy, i_mix_mixcopy, i_scale_mixcopy, i_swap_mixcopy, i_set_mixcopy, i_copy_mixcopy, MH.seq, listF, tupleF, allF, MF.bools_map, ixD2, dgetD, dkey, eDct, ePs, putDct, keysD, mergeD, putD, valD, gn1, gn0, gn00, gs10, gs01, aI0, aI1, aI2, aI3, tame] using l
theorem cnt_ints (ds : List Int) : tlys (ds.map D.int) = ds.length := by
  induction ds with
  | nil => rfl
  | cons d ds ih => simp [runD, sSeq, sRet, sIf, sSet, sEx, sSub, sNil, eVar, eC, eOp, eChain, tTruth, tBl, tNotM, tAndM, tOrM, eAndM, eOrM, eNotM, eIfM, aNil, aCons, eTup, eLst, mkLst, mkTup, eCB, eF, eSl, oPart, oNone, eUn, isB, truD, isiF, tyOf, subT, leD, ltD, gtD, geD, cmpD, lenF, lenN, neD, eqD, eqB, ofOpt, MM.keep, Res.bind, Res.toS, ixD, addD, subD, modD, fdivD, intF, List.replicate, setD, negD, mulD, sizeLine, sAsg, asg, asgs, items, sPar, n_add_mix, n_add_scale, n_add_swap, n_add_set, n_add_copy, n_mix_add, n_mix_scale, n_mix_swap, n_mix_set, n_mix_copy, n_scale_add, n_scale_mix, n_scale_swap, n_scale_set, n_scale_copy, n_swap_add, n_swap_mix, n_swap_scale, n_swap_set, n_swap_copy, n_set_add, n_set_mix, n_set_scale, n_set_swap, n_set_copy, n_copy_add, n_copy_mix, n_copy_scale, n_copy_swap, n_copy_set, i_add_addset, i_mix_addset, i_scale_addset, i_swap_addset, i_set_addset, i_copy_addset, i_add_setcopy, i_mix_setcopy, i_scale_setcopy, i_swap_setcopy, i_set_setcopy, i_copy_setcopy, i_add_mixcopy, i_mix_mixcopy, i_scale_mixcopy, i_swap_mixcopy, i_set_mixcopy, i_copy_mixcopy, MH.seq, listF, tupleF, allF, MF.bools_map, ixD2, dgetD, dkey, eDct, ePs, putDct, keysD, mergeD, putD, valD, gn1, gn0, gn00, gs10, gs01, aI0, aI1, aI2, aI3, tlys, tly, ih]; omega
theorem nat_low {n : Nat} (h : n < 70) : (n : Int).natAbs.log2 < 190 := MF.log_le (by omega) (by omega)
theorem tame_word (x : String) (hx : x ∈ ["add", "mix", "scale", "swap", "set", "copy"]) (f : Nat) : tame f (.str (Str.ofString x)) = true := by
  have : (PyData.strOk (Str.ofString x) && decide ((reprText (Str.ofString x)).length ≤ 200)) = true := by
    simp only [List.mem_cons, List.not_mem_nil, or_false] at hx
    rcases hx with rfl | rfl | rfl | rfl | rfl | rfl <;> decide +kernel
  cases f <;> simpa only [tame] using this
theorem tame_act {bs : List Int} (s : Sh bs) {act : List D} (a : Act bs act) (f : Nat) : tames f act = true ∧ act.length ≤ 4 ∧ tlys act ≤ 4 := by
  have le := s.le
  have L : ∀ {n : Nat}, n < bs.length → (n : Int).natAbs.log2 < 190 := fun h => nat_low (by omega)
  have M : ∀ {c : Int}, 0 ≤ c → c < 70 → c.natAbs.log2 < 190 := fun h1 h2 => MF.log_le (by omega) (by omega)
  have ti : ∀ {c : Int}, c.natAbs.log2 < 190 → tame f (.int c) = true := fun h => by cases f <;> simpa [runD, sSeq, sRet, sIf, sSet, sEx, sSub, sNil, eVar, eC, eOp, eChain, tTruth, tBl, tNotM, tAndM, tOrM, eAndM, eOrM, eNotM, eIfM, aNil, aCons, eTup, eLst, mkLst, mkTup, eCB, eF, eSl, oPart, oNone, eUn, isB, truD, isiF, tyOf, subT, leD, ltD, gtD, geD, cmpD, lenF, lenN, neD, eqD, eqB, ofOpt, MM.keep, Res.bind, Res.toS, ixD, addD, subD, modD, fdivD, intF, List.replicate, setD, negD, mulD, sizeLine, sAsg, asg, asgs, items, sPar, n_add_mix, n_add_scale, n_add_swap, n_add_set, n_add_copy, n_mix_add, n_mix_scale, n_mix_swap, n_mix_set, n_mix_copy, n_scale_add, n_scale_mix, n_scale_swap, n_scale_set, n_scale_copy, n_swap_add, n_swap_mix, n_swap_scale, n_swap_set, n_swap_copy, n_set_add, n_set_mix, n_set_scale, n_set_swap, n_set_copy, n_copy_add, n_copy_mix, n_copy_scale, n_copy_swap, n_copy_set, i_add_addset, i_mix_addset, i_scale_addset, i_swap_addset, i_set_addset, i_copy_addset, i_add_setcopy, i_mix_setcopy, i_scale_setcopy, i_swap_setcopy, i_set_setcopy, i_copy_setcopy, i_add_mixcopy, i_mix_mixcopy, i_scale_mixcopy, i_swap_mixcopy, i_set_mixcopy, i_copy_mixcopy, MH.seq, listF, tupleF, allF, MF.bools_map, ixD2, dgetD, dkey, eDct, ePs, putDct, keysD, mergeD, putD, valD, gn1, gn0, gn00, gs10, gs01, aI0, aI1, aI2, aI3, tame] using h
  cases a with
  | add h1 h2 h3 => exact ⟨by simp only [tames, tame_word "add" (by simp [runD, sSeq, sRet, sIf, sSet, sEx, sSub, sNil, eVar, eC, eOp, eChain, tTruth, tBl, tNotM, tAndM, tOrM, eAndM, eOrM, eNotM, eIfM, aNil, aCons, eTup, eLst, mkLst, mkTup, eCB, eF, eSl, oPart, oNone, eUn, isB, truD, isiF, tyOf, subT, leD, ltD, gtD, geD, cmpD, lenF, lenN, neD, eqD, eqB, ofOpt, MM.keep, Res.bind, Res.toS, ixD, addD, subD, modD, fdivD, intF, List.replicate, setD, negD, mulD, sizeLine, sAsg, asg, asgs, items, sPar, n_add_mix, n_add_scale, n_add_swap, n_add_set, n_add_copy, n_mix_add, n_mix_scale, n_mix_swap, n_mix_set, n_mix_copy, n_scale_add, n_scale_mix, n_scale_swap, n_scale_set, n_scale_copy, n_swap_add, n_swap_mix, n_swap_scale, n_swap_set, n_swap_copy, n_set_add, n_set_mix, n_set_scale, n_set_swap, n_set_copy, n_copy_add, n_copy_mix, n_copy_scale, n_copy_swap, n_copy_set, i_add_addset, i_mix_addset, i_scale_addset, i_swap_addset, i_set_addset, i_copy_addset, i_add_setcopy, i_mix_setcopy, i_scale_setcopy, i_swap_setcopy, i_set_setcopy, i_copy_setcopy, i_add_mixcopy, i_mix_mixcopy, i_scale_mixcopy, i_swap_mixcopy, i_set_mixcopy, i_copy_mixcopy, MH.seq, listF, tupleF, allF, MF.bools_map, ixD2, dgetD, dkey, eDct, ePs, putDct, keysD, mergeD, putD, valD, gn1, gn0, gn00, gs10, gs01, aI0, aI1, aI2, aI3]) f, ti (L h1), ti (M h2 h3), Bool.and_self], by simp [runD, sSeq, sRet, sIf, sSet, sEx, sSub, sNil, eVar, eC, eOp, eChain, tTruth, tBl, tNotM, tAndM, tOrM, eAndM, eOrM, eNotM, eIfM, aNil, aCons, eTup, eLst, mkLst, mkTup, eCB, eF, eSl, oPart, oNone, eUn, isB, truD, isiF, tyOf, subT, leD, ltD, gtD, geD, cmpD, lenF, lenN, neD, eqD, eqB, ofOpt, MM.keep, Res.bind, Res.toS, ixD, addD, subD, modD, fdivD, intF, List.replicate, setD, negD, mulD, sizeLine, sAsg, asg, asgs, items, sPar, n_add_mix, n_add_scale, n_add_swap, n_add_set, n_add_copy, n_mix_add, n_mix_scale, n_mix_swap, n_mix_set, n_mix_copy, n_scale_add, n_scale_mix, n_scale_swap, n_scale_set, n_scale_copy, n_swap_add, n_swap_mix, n_swap_scale, n_swap_set, n_swap_copy, n_set_add, n_set_mix, n_set_scale, n_set_swap, n_set_copy, n_copy_add, n_copy_mix, n_copy_scale, n_copy_swap, n_copy_set, i_add_addset, i_mix_addset, i_scale_addset, i_swap_addset, i_set_addset, i_copy_addset, i_add_setcopy, i_mix_setcopy, i_scale_setcopy, i_swap_setcopy, i_set_setcopy, i_copy_setcopy, i_add_mixcopy, i_mix_mixcopy, i_scale_mixcopy, i_swap_mixcopy, i_set_mixcopy, i_copy_mixcopy, MH.seq, listF, tupleF, allF, MF.bools_map, ixD2, dgetD, dkey, eDct, ePs, putDct, keysD, mergeD, putD, valD, gn1, gn0, gn00, gs10, gs01, aI0, aI1, aI2, aI3], by simp [runD, sSeq, sRet, sIf, sSet, sEx, sSub, sNil, eVar, eC, eOp, eChain, tTruth, tBl, tNotM, tAndM, tOrM, eAndM, eOrM, eNotM, eIfM, aNil, aCons, eTup, eLst, mkLst, mkTup, eCB, eF, eSl, oPart, oNone, eUn, isB, truD, isiF, tyOf, subT, leD, ltD, gtD, geD, cmpD, lenF, lenN, neD, eqD, eqB, ofOpt, MM.keep, Res.bind, Res.toS, ixD, addD, subD, modD, fdivD, intF, List.replicate, setD, negD, mulD, sizeLine, sAsg, asg, asgs, items, sPar, n_add_mix, n_add_scale, n_add_swap, n_add_set, n_add_copy, n_mix_add, n_mix_scale, n_mix_swap, n_mix_set, n_mix_copy, n_scale_add, n_scale_mix, n_scale_swap, n_scale_set, n_scale_copy, n_swap_add, n_swap_mix, n_swap_scale, n_swap_set, n_swap_copy, n_set_add, n_set_mix, n_set_scale, n_set_swap, n_set_copy, n_copy_add, n_copy_mix, n_copy_scale, n_copy_swap, n_copy_set, i_add_addset, i_mix_addset, i_scale_addset, i_swap_addset, i_set_addset, i_copy_addset, i_add_setcopy, i_mix_setcopy, i_scale_setcopy, i_swap_setcopy, i_set_setcopy, i_copy_setcopy, i_add_mixcopy, i_mix_mixcopy, i_scale_mixcopy, i_swap_mixcopy, i_set_mixcopy, i_copy_mixcopy, MH.seq, listF, tupleF, allF, MF.bools_map, ixD2, dgetD, dkey, eDct, ePs, putDct, keysD, mergeD, putD, valD, gn1, gn0, gn00, gs10, gs01, aI0, aI1, aI2, aI3, tlys, tly]⟩
  | mix h1 h2 h3 h4 => exact ⟨by simp only [tames, tame_word "mix" (by simp [runD, sSeq, sRet, sIf, sSet, sEx, sSub, sNil, eVar, eC, eOp, eChain, tTruth, tBl, tNotM, tAndM, tOrM, eAndM, eOrM, eNotM, eIfM, aNil, aCons, eTup, eLst, mkLst, mkTup, eCB, eF, eSl, oPart, oNone, eUn, isB, truD, isiF, tyOf, subT, leD, ltD, gtD, geD, cmpD, lenF, lenN, neD, eqD, eqB, ofOpt, MM.keep, Res.bind, Res.toS, ixD, addD, subD, modD, fdivD, intF, List.replicate, setD, negD, mulD, sizeLine, sAsg, asg, asgs, items, sPar, n_add_mix, n_add_scale, n_add_swap, n_add_set, n_add_copy, n_mix_add, n_mix_scale, n_mix_swap, n_mix_set, n_mix_copy, n_scale_add, n_scale_mix, n_scale_swap, n_scale_set, n_scale_copy, n_swap_add, n_swap_mix, n_swap_scale, n_swap_set, n_swap_copy, n_set_add, n_set_mix, n_set_scale, n_set_swap, n_set_copy, n_copy_add, n_copy_mix, n_copy_scale, n_copy_swap, n_copy_set, i_add_addset, i_mix_addset, i_scale_addset, i_swap_addset, i_set_addset, i_copy_addset, i_add_setcopy, i_mix_setcopy, i_scale_setcopy, i_swap_setcopy, i_set_setcopy, i_copy_setcopy, i_add_mixcopy, i_mix_mixcopy, i_scale_mixcopy, i_swap_mixcopy, i_set_mixcopy, i_copy_mixcopy, MH.seq, listF, tupleF, allF, MF.bools_map, ixD2, dgetD, dkey, eDct, ePs, putDct, keysD, mergeD, putD, valD, gn1, gn0, gn00, gs10, gs01, aI0, aI1, aI2, aI3]) f, ti (L h1), ti (L h2), ti (M h3 h4), Bool.and_self], by simp [runD, sSeq, sRet, sIf, sSet, sEx, sSub, sNil, eVar, eC, eOp, eChain, tTruth, tBl, tNotM, tAndM, tOrM, eAndM, eOrM, eNotM, eIfM, aNil, aCons, eTup, eLst, mkLst, mkTup, eCB, eF, eSl, oPart, oNone, eUn, isB, truD, isiF, tyOf, subT, leD, ltD, gtD, geD, cmpD, lenF, lenN, neD, eqD, eqB, ofOpt, MM.keep, Res.bind, Res.toS, ixD, addD, subD, modD, fdivD, intF, List.replicate, setD, negD, mulD, sizeLine, sAsg, asg, asgs, items, sPar, n_add_mix, n_add_scale, n_add_swap, n_add_set, n_add_copy, n_mix_add, n_mix_scale, n_mix_swap, n_mix_set, n_mix_copy, n_scale_add, n_scale_mix, n_scale_swap, n_scale_set, n_scale_copy, n_swap_add, n_swap_mix, n_swap_scale, n_swap_set, n_swap_copy, n_set_add, n_set_mix, n_set_scale, n_set_swap, n_set_copy, n_copy_add, n_copy_mix, n_copy_scale, n_copy_swap, n_copy_set, i_add_addset, i_mix_addset, i_scale_addset, i_swap_addset, i_set_addset, i_copy_addset, i_add_setcopy, i_mix_setcopy, i_scale_setcopy, i_swap_setcopy, i_set_setcopy, i_copy_setcopy, i_add_mixcopy, i_mix_mixcopy, i_scale_mixcopy, i_swap_mixcopy, i_set_mixcopy, i_copy_mixcopy, MH.seq, listF, tupleF, allF, MF.bools_map, ixD2, dgetD, dkey, eDct, ePs, putDct, keysD, mergeD, putD, valD, gn1, gn0, gn00, gs10, gs01, aI0, aI1, aI2, aI3], by simp [runD, sSeq, sRet, sIf, sSet, sEx, sSub, sNil, eVar, eC, eOp, eChain, tTruth, tBl, tNotM, tAndM, tOrM, eAndM, eOrM, eNotM, eIfM, aNil, aCons, eTup, eLst, mkLst, mkTup, eCB, eF, eSl, oPart, oNone, eUn, isB, truD, isiF, tyOf, subT, leD, ltD, gtD, geD, cmpD, lenF, lenN, neD, eqD, eqB, ofOpt, MM.keep, Res.bind, Res.toS, ixD, addD, subD, modD, fdivD, intF, List.replicate, setD, negD, mulD, sizeLine, sAsg, asg, asgs, items, sPar, n_add_mix, n_add_scale, n_add_swap, n_add_set, n_add_copy, n_mix_add, n_mix_scale, n_mix_swap, n_mix_set, n_mix_copy, n_scale_add, n_scale_mix, n_scale_swap, n_scale_set, n_scale_copy, n_swap_add, n_swap_mix, n_swap_scale, n_swap_set, n_swap_copy, n_set_add, n_set_mix, n_set_scale, n_set_swap, n_set_copy, n_copy_add, n_copy_mix, n_copy_scale, n_copy_swap, n_copy_set, i_add_addset, i_mix_addset, i_scale_addset, i_swap_addset, i_set_addset, i_copy_addset, i_add_setcopy, i_mix_setcopy, i_scale_setcopy, i_swap_setcopy, i_set_setcopy, i_copy_setcopy, i_add_mixcopy, i_mix_mixcopy, i_scale_mixcopy, i_swap_mixcopy, i_set_mixcopy, i_copy_mixcopy, MH.seq, listF, tupleF, allF, MF.bools_map, ixD2, dgetD, dkey, eDct, ePs, putDct, keysD, mergeD, putD, valD, gn1, gn0, gn00, gs10, gs01, aI0, aI1, aI2, aI3, tlys, tly]⟩
  | scale h1 h2 h3 => exact ⟨by simp only [tames, tame_word "scale" (by simp [runD, sSeq, sRet, sIf, sSet, sEx, sSub, sNil, eVar, eC, eOp, eChain, tTruth, tBl, tNotM, tAndM, tOrM, eAndM, eOrM, eNotM, eIfM, aNil, aCons, eTup, eLst, mkLst, mkTup, eCB, eF, eSl, oPart, oNone, eUn, isB, truD, isiF, tyOf, subT, leD, ltD, gtD, geD, cmpD, lenF, lenN, neD, eqD, eqB, ofOpt, MM.keep, Res.bind, Res.toS, ixD, addD, subD, modD, fdivD, intF, List.replicate, setD, negD, mulD, sizeLine, sAsg, asg, asgs, items, sPar, n_add_mix, n_add_scale, n_add_swap, n_add_set, n_add_copy, n_mix_add, n_mix_scale, n_mix_swap, n_mix_set, n_mix_copy, n_scale_add, n_scale_mix, n_scale_swap, n_scale_set, n_scale_copy, n_swap_add, n_swap_mix, n_swap_scale, n_swap_set, n_swap_copy, n_set_add, n_set_mix, n_set_scale, n_set_swap, n_set_copy, n_copy_add, n_copy_mix, n_copy_scale, n_copy_swap, n_copy_set, i_add_addset, i_mix_addset, i_scale_addset, i_swap_addset, i_set_addset, i_copy_addset, i_add_setcopy, i_mix_setcopy, i_scale_setcopy, i_swap_setcopy, i_set_setcopy, i_copy_setcopy, i_add_mixcopy, i_mix_mixcopy, i_scale_mixcopy, i_swap_mixcopy, i_set_mixcopy, i_copy_mixcopy, MH.seq, listF, tupleF, allF, MF.bools_map, ixD2, dgetD, dkey, eDct, ePs, putDct, keysD, mergeD, putD, valD, gn1, gn0, gn00, gs10, gs01, aI0, aI1, aI2, aI3]) f, ti (L h1), ti (M h2 (by have := s.at h1; omega)), Bool.and_self], by simp [runD, sSeq, sRet, sIf, sSet, sEx, sSub, sNil, eVar, eC, eOp, eChain, tTruth, tBl, tNotM, tAndM, tOrM, eAndM, eOrM, eNotM, eIfM, aNil, aCons, eTup, eLst, mkLst, mkTup, eCB, eF, eSl, oPart, oNone, eUn, isB, truD, isiF, tyOf, subT, leD, ltD, gtD, geD, cmpD, lenF, lenN, neD, eqD, eqB, ofOpt, MM.keep, Res.bind, Res.toS, ixD, addD, subD, modD, fdivD, intF, List.replicate, setD, negD, mulD, sizeLine, sAsg, asg, asgs, items, sPar, n_add_mix, n_add_scale, n_add_swap, n_add_set, n_add_copy, n_mix_add, n_mix_scale, n_mix_swap, n_mix_set, n_mix_copy, n_scale_add, n_scale_mix, n_scale_swap, n_scale_set, n_scale_copy, n_swap_add, n_swap_mix, n_swap_scale, n_swap_set, n_swap_copy, n_set_add, n_set_mix, n_set_scale, n_set_swap, n_set_copy, n_copy_add, n_copy_mix, n_copy_scale, n_copy_swap, n_copy_set, i_add_addset, i_mix_addset, i_scale_addset, i_swap_addset, i_set_addset, i_copy_addset, i_add_setcopy, i_mix_setcopy, i_scale_setcopy, i_swap_setcopy, i_set_setcopy, i_copy_setcopy, i_add_mixcopy, i_mix_mixcopy, i_scale_mixcopy, i_swap_mixcopy, i_set_mixcopy, i_copy_mixcopy, MH.seq, listF, tupleF, allF, MF.bools_map, ixD2, dgetD, dkey, eDct, ePs, putDct, keysD, mergeD, putD, valD, gn1, gn0, gn00, gs10, gs01, aI0, aI1, aI2, aI3], by simp [runD, sSeq, sRet, sIf, sSet, sEx, sSub, sNil, eVar, eC, eOp, eChain, tTruth, tBl, tNotM, tAndM, tOrM, eAndM, eOrM, eNotM, eIfM, aNil, aCons, eTup, eLst, mkLst, mkTup, eCB, eF, eSl, oPart, oNone, eUn, isB, truD, isiF, tyOf, subT, leD, ltD, gtD, geD, cmpD, lenF, lenN, neD, eqD, eqB, ofOpt, MM.keep, Res.bind, Res.toS, ixD, addD, subD, modD, fdivD, intF, List.replicate, setD, negD, mulD, sizeLine, sAsg, asg, asgs, items, sPar, n_add_mix, n_add_scale, n_add_swap, n_add_set, n_add_copy, n_mix_add, n_mix_scale, n_mix_swap, n_mix_set, n_mix_copy, n_scale_add, n_scale_mix, n_scale_swap, n_scale_set, n_scale_copy, n_swap_add, n_swap_mix, n_swap_scale, n_swap_set, n_swap_copy, n_set_add, n_set_mix, n_set_scale, n_set_swap, n_set_copy, n_copy_add, n_copy_mix, n_copy_scale, n_copy_swap, n_copy_set, i_add_addset, i_mix_addset, i_scale_addset, i_swap_addset, i_set_addset, i_copy_addset, i_add_setcopy, i_mix_setcopy, i_scale_setcopy, i_swap_setcopy, i_set_setcopy, i_copy_setcopy, i_add_mixcopy, i_mix_mixcopy, i_scale_mixcopy, i_swap_mixcopy, i_set_mixcopy, i_copy_mixcopy, MH.seq, listF, tupleF, allF, MF.bools_map, ixD2, dgetD, dkey, eDct, ePs, putDct, keysD, mergeD, putD, valD, gn1, gn0, gn00, gs10, gs01, aI0, aI1, aI2, aI3, tlys, tly]⟩
  | swap h1 h2 h3 => exact ⟨by simp only [tames, tame_word "swap" (by simp [runD, sSeq, sRet, sIf, sSet, sEx, sSub, sNil, eVar, eC, eOp, eChain, tTruth, tBl, tNotM, tAndM, tOrM, eAndM, eOrM, eNotM, eIfM, aNil, aCons, eTup, eLst, mkLst, mkTup, eCB, eF, eSl, oPart, oNone, eUn, isB, truD, isiF, tyOf, subT, leD, ltD, gtD, geD, cmpD, lenF, lenN, neD, eqD, eqB, ofOpt, MM.keep, Res.bind, Res.toS, ixD, addD, subD, modD, fdivD, intF, List.replicate, setD, negD, mulD, sizeLine, sAsg, asg, asgs, items, sPar, n_add_mix, n_add_scale, n_add_swap, n_add_set, n_add_copy, n_mix_add, n_mix_scale, n_mix_swap, n_mix_set, n_mix_copy, n_scale_add, n_scale_mix, n_scale_swap, n_scale_set, n_scale_copy, n_swap_add, n_swap_mix, n_swap_scale, n_swap_set, n_swap_copy, n_set_add, n_set_mix, n_set_scale, n_set_swap, n_set_copy, n_copy_add, n_copy_mix, n_copy_scale, n_copy_swap, n_copy_set, i_add_addset, i_mix_addset, i_scale_addset, i_swap_addset, i_set_addset, i_copy_addset, i_add_setcopy, i_mix_setcopy, i_scale_setcopy, i_swap_setcopy, i_set_setcopy, i_copy_setcopy, i_add_mixcopy, i_mix_mixcopy, i_scale_mixcopy, i_swap_mixcopy, i_set_mixcopy, i_copy_mixcopy, MH.seq, listF, tupleF, allF, MF.bools_map, ixD2, dgetD, dkey, eDct, ePs, putDct, keysD, mergeD, putD, valD, gn1, gn0, gn00, gs10, gs01, aI0, aI1, aI2, aI3]) f, ti (L h1), ti (L h2), Bool.and_self], by simp [runD, sSeq, sRet, sIf, sSet, sEx, sSub, sNil, eVar, eC, eOp, eChain, tTruth, tBl, tNotM, tAndM, tOrM, eAndM, eOrM, eNotM, eIfM, aNil, aCons, eTup, eLst, mkLst, mkTup, eCB, eF, eSl, oPart, oNone, eUn, isB, truD, isiF, tyOf, subT, leD, ltD, gtD, geD, cmpD, lenF, lenN, neD, eqD, eqB, ofOpt, MM.keep, Res.bind, Res.toS, ixD, addD, subD, modD, fdivD, intF, List.replicate, setD, negD, mulD, sizeLine, sAsg, asg, asgs, items, sPar, n_add_mix, n_add_scale, n_add_swap, n_add_set, n_add_copy, n_mix_add, n_mix_scale, n_mix_swap, n_mix_set, n_mix_copy, n_scale_add, n_scale_mix, n_scale_swap, n_scale_set, n_scale_copy, n_swap_add, n_swap_mix, n_swap_scale, n_swap_set, n_swap_copy, n_set_add, n_set_mix, n_set_scale, n_set_swap, n_set_copy, n_copy_add, n_copy_mix, n_copy_scale, n_copy_swap, n_copy_set, i_add_addset, i_mix_addset, i_scale_addset, i_swap_addset, i_set_addset, i_copy_addset, i_add_setcopy, i_mix_setcopy, i_scale_setcopy, i_swap_setcopy, i_set_setcopy, i_copy_setcopy, i_add_mixcopy, i_mix_mixcopy, i_scale_mixcopy, i_swap_mixcopy, i_set_mixcopy, i_copy_mixcopy, MH.seq, listF, tupleF, allF, MF.bools_map, ixD2, dgetD, dkey, eDct, ePs, putDct, keysD, mergeD, putD, valD, gn1, gn0, gn00, gs10, gs01, aI0, aI1, aI2, aI3], by simp [runD, sSeq, sRet, sIf, sSet, sEx, sSub, sNil, eVar, eC, eOp, eChain, tTruth, tBl, tNotM, tAndM, tOrM, eAndM, eOrM, eNotM, eIfM, aNil, aCons, eTup, eLst, mkLst, mkTup, eCB, eF, eSl, oPart, oNone, eUn, isB, truD, isiF, tyOf, subT, leD, ltD, gtD, geD, cmpD, lenF, lenN, neD, eqD, eqB, ofOpt, MM.keep, Res.bind, Res.toS, ixD, addD, subD, modD, fdivD, intF, List.replicate, setD, negD, mulD, sizeLine, sAsg, asg, asgs, items, sPar, n_add_mix, n_add_scale, n_add_swap, n_add_set, n_add_copy, n_mix_add, n_mix_scale, n_mix_swap, n_mix_set, n_mix_copy, n_scale_add, n_scale_mix, n_scale_swap, n_scale_set, n_scale_copy, n_swap_add, n_swap_mix, n_swap_scale, n_swap_set, n_swap_copy, n_set_add, n_set_mix, n_set_scale, n_set_swap, n_set_copy, n_copy_add, n_copy_mix, n_copy_scale, n_copy_swap, n_copy_set, i_add_addset, i_mix_addset, i_scale_addset, i_swap_addset, i_set_addset, i_copy_addset, i_add_setcopy, i_mix_setcopy, i_scale_setcopy, i_swap_setcopy, i_set_setcopy, i_copy_setcopy, i_add_mixcopy, i_mix_mixcopy, i_scale_mixcopy, i_swap_mixcopy, i_set_mixcopy, i_copy_mixcopy, MH.seq, listF, tupleF, allF, MF.bools_map, ixD2, dgetD, dkey, eDct, ePs, putDct, keysD, mergeD, putD, valD, gn1, gn0, gn00, gs10, gs01, aI0, aI1, aI2, aI3, tlys, tly]⟩
  | set h1 h2 h3 => exact ⟨by simp only [tames, tame_word "set" (by simp [runD, sSeq, sRet, sIf, sSet, sEx, sSub, sNil, eVar, eC, eOp, eChain, tTruth, tBl, tNotM, tAndM, tOrM, eAndM, eOrM, eNotM, eIfM, aNil, aCons, eTup, eLst, mkLst, mkTup, eCB, eF, eSl, oPart, oNone, eUn, isB, truD, isiF, tyOf, subT, leD, ltD, gtD, geD, cmpD, lenF, lenN, neD, eqD, eqB, ofOpt, MM.keep, Res.bind, Res.toS, ixD, addD, subD, modD, fdivD, intF, List.replicate, setD, negD, mulD, sizeLine, sAsg, asg, asgs, items, sPar, n_add_mix, n_add_scale, n_add_swap, n_add_set, n_add_copy, n_mix_add, n_mix_scale, n_mix_swap, n_mix_set, n_mix_copy, n_scale_add, n_scale_mix, n_scale_swap, n_scale_set, n_scale_copy, n_swap_add, n_swap_mix, n_swap_scale, n_swap_set, n_swap_copy, n_set_add, n_set_mix, n_set_scale, n_set_swap, n_set_copy, n_copy_add, n_copy_mix, n_copy_scale, n_copy_swap, n_copy_set, i_add_addset, i_mix_addset, i_scale_addset, i_swap_addset, i_set_addset, i_copy_addset, i_add_setcopy, i_mix_setcopy, i_scale_setcopy, i_swap_setcopy, i_set_setcopy, i_copy_setcopy, i_add_mixcopy, i_mix_mixcopy, i_scale_mixcopy, i_swap_mixcopy, i_set_mixcopy, i_copy_mixcopy, MH.seq, listF, tupleF, allF, MF.bools_map, ixD2, dgetD, dkey, eDct, ePs, putDct, keysD, mergeD, putD, valD, gn1, gn0, gn00, gs10, gs01, aI0, aI1, aI2, aI3]) f, ti (L h1), ti (M h2 h3), Bool.and_self], by simp [runD, sSeq, sRet, sIf, sSet, sEx, sSub, sNil, eVar, eC, eOp, eChain, tTruth, tBl, tNotM, tAndM, tOrM, eAndM, eOrM, eNotM, eIfM, aNil, aCons, eTup, eLst, mkLst, mkTup, eCB, eF, eSl, oPart, oNone, eUn, isB, truD, isiF, tyOf, subT, leD, ltD, gtD, geD, cmpD, lenF, lenN, neD, eqD, eqB, ofOpt, MM.keep, Res.bind, Res.toS, ixD, addD, subD, modD, fdivD, intF, List.replicate, setD, negD, mulD, sizeLine, sAsg, asg, asgs, items, sPar, n_add_mix, n_add_scale, n_add_swap, n_add_set, n_add_copy, n_mix_add, n_mix_scale, n_mix_swap, n_mix_set, n_mix_copy, n_scale_add, n_scale_mix, n_scale_swap, n_scale_set, n_scale_copy, n_swap_add, n_swap_mix, n_swap_scale, n_swap_set, n_swap_copy, n_set_add, n_set_mix, n_set_scale, n_set_swap, n_set_copy, n_copy_add, n_copy_mix, n_copy_scale, n_copy_swap, n_copy_set, i_add_addset, i_mix_addset, i_scale_addset, i_swap_addset, i_set_addset, i_copy_addset, i_add_setcopy, i_mix_setcopy, i_scale_setcopy, i_swap_setcopy, i_set_setcopy, i_copy_setcopy, i_add_mixcopy, i_mix_mixcopy, i_scale_mixcopy, i_swap_mixcopy, i_set_mixcopy, i_copy_mixcopy, MH.seq, listF, tupleF, allF, MF.bools_map, ixD2, dgetD, dkey, eDct, ePs, putDct, keysD, mergeD, putD, valD, gn1, gn0, gn00, gs10, gs01, aI0, aI1, aI2, aI3], by simp [runD, sSeq, sRet, sIf, sSet, sEx, sSub, sNil, eVar, eC, eOp, eChain, tTruth, tBl, tNotM, tAndM, tOrM, eAndM, eOrM, eNotM, eIfM, aNil, aCons, eTup, eLst, mkLst, mkTup, eCB, eF, eSl, oPart, oNone, eUn, isB, truD, isiF, tyOf, subT, leD, ltD, gtD, geD, cmpD, lenF, lenN, neD, eqD, eqB, ofOpt, MM.keep, Res.bind, Res.toS, ixD, addD, subD, modD, fdivD, intF, List.replicate, setD, negD, mulD, sizeLine, sAsg, asg, asgs, items, sPar, n_add_mix, n_add_scale, n_add_swap, n_add_set, n_add_copy, n_mix_add, n_mix_scale, n_mix_swap, n_mix_set, n_mix_copy, n_scale_add, n_scale_mix, n_scale_swap, n_scale_set, n_scale_copy, n_swap_add, n_swap_mix, n_swap_scale, n_swap_set, n_swap_copy, n_set_add, n_set_mix, n_set_scale, n_set_swap, n_set_copy, n_copy_add, n_copy_mix, n_copy_scale, n_copy_swap, n_copy_set, i_add_addset, i_mix_addset, i_scale_addset, i_swap_addset, i_set_addset, i_copy_addset, i_add_setcopy, i_mix_setcopy, i_scale_setcopy, i_swap_setcopy, i_set_setcopy, i_copy_setcopy, i_add_mixcopy, i_mix_mixcopy, i_scale_mixcopy, i_swap_mixcopy, i_set_mixcopy, i_copy_mixcopy, MH.seq, listF, tupleF, allF, MF.bools_map, ixD2, dgetD, dkey, eDct, ePs, putDct, keysD, mergeD, putD, valD, gn1, gn0, gn00, gs10, gs01, aI0, aI1, aI2, aI3, tlys, tly]⟩
  | copy h1 h2 => exact ⟨by simp only [tames, tame_word "copy" (by simp [runD, sSeq, sRet, sIf, sSet, sEx, sSub, sNil, eVar, eC, eOp, eChain, tTruth, tBl, tNotM, tAndM, tOrM, eAndM, eOrM, eNotM, eIfM, aNil, aCons, eTup, eLst, mkLst, mkTup, eCB, eF, eSl, oPart, oNone, eUn, isB, truD, isiF, tyOf, subT, leD, ltD, gtD, geD, cmpD, lenF, lenN, neD, eqD, eqB, ofOpt, MM.keep, Res.bind, Res.toS, ixD, addD, subD, modD, fdivD, intF, List.replicate, setD, negD, mulD, sizeLine, sAsg, asg, asgs, items, sPar, n_add_mix, n_add_scale, n_add_swap, n_add_set, n_add_copy, n_mix_add, n_mix_scale, n_mix_swap, n_mix_set, n_mix_copy, n_scale_add, n_scale_mix, n_scale_swap, n_scale_set, n_scale_copy, n_swap_add, n_swap_mix, n_swap_scale, n_swap_set, n_swap_copy, n_set_add, n_set_mix, n_set_scale, n_set_swap, n_set_copy, n_copy_add, n_copy_mix, n_copy_scale, n_copy_swap, n_copy_set, i_add_addset, i_mix_addset, i_scale_addset, i_swap_addset, i_set_addset, i_copy_addset, i_add_setcopy, i_mix_setcopy, i_scale_setcopy, i_swap_setcopy, i_set_setcopy, i_copy_setcopy, i_add_mixcopy, i_mix_mixcopy, i_scale_mixcopy, i_swap_mixcopy, i_set_mixcopy, i_copy_mixcopy, MH.seq, listF, tupleF, allF, MF.bools_map, ixD2, dgetD, dkey, eDct, ePs, putDct, keysD, mergeD, putD, valD, gn1, gn0, gn00, gs10, gs01, aI0, aI1, aI2, aI3]) f, ti (L h1), ti (L h2), Bool.and_self], by simp [runD, sSeq, sRet, sIf, sSet, sEx, sSub, sNil, eVar, eC, eOp, eChain, tTruth, tBl, tNotM, tAndM, tOrM, eAndM, eOrM, eNotM, eIfM, aNil, aCons, eTup, eLst, mkLst, mkTup, eCB, eF, eSl, oPart, oNone, eUn, isB, truD, isiF, tyOf, subT, leD, ltD, gtD, geD, cmpD, lenF, lenN, neD, eqD, eqB, ofOpt, MM.keep, Res.bind, Res.toS, ixD, addD, subD, modD, fdivD, intF, List.replicate, setD, negD, mulD, sizeLine, sAsg, asg, asgs, items, sPar, n_add_mix, n_add_scale, n_add_swap, n_add_set, n_add_copy, n_mix_add, n_mix_scale, n_mix_swap, n_mix_set, n_mix_copy, n_scale_add, n_scale_mix, n_scale_swap, n_scale_set, n_scale_copy, n_swap_add, n_swap_mix, n_swap_scale, n_swap_set, n_swap_copy, n_set_add, n_set_mix, n_set_scale, n_set_swap, n_set_copy, n_copy_add, n_copy_mix, n_copy_scale, n_copy_swap, n_copy_set, i_add_addset, i_mix_addset, i_scale_addset, i_swap_addset, i_set_addset, i_copy_addset, i_add_setcopy, i_mix_setcopy, i_scale_setcopy, i_swap_setcopy, i_set_setcopy, i_copy_setcopy, i_add_mixcopy, i_mix_mixcopy, i_scale_mixcopy, i_swap_mixcopy, i_set_mixcopy, i_copy_mixcopy, MH.seq, listF, tupleF, allF, MF.bools_map, ixD2, dgetD, dkey, eDct, ePs, putDct, keysD, mergeD, putD, valD, gn1, gn0, gn00, gs10, gs01, aI0, aI1, aI2, aI3], by simp [runD, sSeq, sRet, sIf, sSet, sEx, sSub, sNil, eVar, eC, eOp, eChain, tTruth, tBl, tNotM, tAndM, tOrM, eAndM, eOrM, eNotM, eIfM, aNil, aCons, eTup, eLst, mkLst, mkTup, eCB, eF, eSl, oPart, oNone, eUn, isB, truD, isiF, tyOf, subT, leD, ltD, gtD, geD, cmpD, lenF, lenN, neD, eqD, eqB, ofOpt, MM.keep, Res.bind, Res.toS, ixD, addD, subD, modD, fdivD, intF, List.replicate, setD, negD, mulD, sizeLine, sAsg, asg, asgs, items, sPar, n_add_mix, n_add_scale, n_add_swap, n_add_set, n_add_copy, n_mix_add, n_mix_scale, n_mix_swap, n_mix_set, n_mix_copy, n_scale_add, n_scale_mix, n_scale_swap, n_scale_set, n_scale_copy, n_swap_add, n_swap_mix, n_swap_scale, n_swap_set, n_swap_copy, n_set_add, n_set_mix, n_set_scale, n_set_swap, n_set_copy, n_copy_add, n_copy_mix, n_copy_scale, n_copy_swap, n_copy_set, i_add_addset, i_mix_addset, i_scale_addset, i_swap_addset, i_set_addset, i_copy_addset, i_add_setcopy, i_mix_setcopy, i_scale_setcopy, i_swap_setcopy, i_set_setcopy, i_copy_setcopy, i_add_mixcopy, i_mix_mixcopy, i_scale_mixcopy, i_swap_mixcopy, i_set_mixcopy, i_copy_mixcopy, MH.seq, listF, tupleF, allF, MF.bools_map, ixD2, dgetD, dkey, eDct, ePs, putDct, keysD, mergeD, putD, valD, gn1, gn0, gn00, gs10, gs01, aI0, aI1, aI2, aI3, tlys, tly]⟩
theorem tame_cD {n : Nat} (hn : n ≤ 6) {cs : List (Nat × Int)} (hc : ∀ p ∈ cs, p.1 < n ∧ 0 ≤ p.2 ∧ p.2 < 70) (f : Nat) : tames (f + 1) (cD cs) = true ∧ tlys (cD cs) ≤ 3 * cs.length := by
  induction cs with
  | nil => exact ⟨rfl, by simp [runD, sSeq, sRet, sIf, sSet, sEx, sSub, sNil, eVar, eC, eOp, eChain, tTruth, tBl, tNotM, tAndM, tOrM, eAndM, eOrM, eNotM, eIfM, aNil, aCons, eTup, eLst, mkLst, mkTup, eCB, eF, eSl, oPart, oNone, eUn, isB, truD, isiF, tyOf, subT, leD, ltD, gtD, geD, cmpD, lenF, lenN, neD, eqD, eqB, ofOpt, MM.keep, Res.bind, Res.toS, ixD, addD, subD, modD, fdivD, intF, List.replicate, setD, negD, mulD, sizeLine, sAsg, asg, asgs, items, sPar, n_add_mix, n_add_scale, n_add_swap, n_add_set, n_add_copy, n_mix_add, n_mix_scale, n_mix_swap, n_mix_set, n_mix_copy, n_scale_add, n_scale_mix, n_scale_swap, n_scale_set, n_scale_copy, n_swap_add, n_swap_mix, n_swap_scale, n_swap_set, n_swap_copy, n_set_add, n_set_mix, n_set_scale, n_set_swap, n_set_copy, n_copy_add, n_copy_mix, n_copy_scale, n_copy_swap, n_copy_set, i_add_addset, i_mix_addset, i_scale_addset, i_swap_addset, i_set_addset, i_copy_addset, i_add_setcopy, i_mix_setcopy, i_scale_setcopy, i_swap_setcopy, i_set_setcopy, i_copy_setcopy, i_add_mixcopy, i_mix_mixcopy, i_scale_mixcopy, i_swap_mixcopy, i_set_mixcopy, i_copy_mixcopy, MH.seq, listF, tupleF, allF, MF.bools_map, ixD2, dgetD, dkey, eDct, ePs, putDct, keysD, mergeD, putD, valD, gn1, gn0, gn00, gs10, gs01, aI0, aI1, aI2, aI3, cD, tlys]⟩
  | cons p cs ih =>
    obtain ⟨i1, i2⟩ := ih fun q hq => hc q (List.mem_cons_of_mem _ hq)
    obtain ⟨p1, p2, p3⟩ := hc p List.mem_cons_self
    have a1 : (p.1 : Int).natAbs.log2 < 190 := nat_low (by omega)
    have a2 : p.2.natAbs.log2 < 190 := MF.log_le (by omega) (by omega)
    have ti : ∀ {c : Int}, c.natAbs.log2 < 190 → tame f (.int c) = true := fun h => by cases f <;> simpa [runD, sSeq, sRet, sIf, sSet, sEx, sSub, sNil, eVar, eC, eOp, eChain, tTruth, tBl, tNotM, tAndM, tOrM, eAndM, eOrM, eNotM, eIfM, aNil, aCons, eTup, eLst, mkLst, mkTup, eCB, eF, eSl, oPart, oNone, eUn, isB, truD, isiF, tyOf, subT, leD, ltD, gtD, geD, cmpD, lenF, lenN, neD, eqD, eqB, ofOpt, MM.keep, Res.bind, Res.toS, ixD, addD, subD, modD, fdivD, intF, List.replicate, setD, negD, mulD, sizeLine, sAsg, asg, asgs, items, sPar, n_add_mix, n_add_scale, n_add_swap, n_add_set, n_add_copy, n_mix_add, n_mix_scale, n_mix_swap, n_mix_set, n_mix_copy, n_scale_add, n_scale_mix, n_scale_swap, n_scale_set, n_scale_copy, n_swap_add, n_swap_mix, n_swap_scale, n_swap_set, n_swap_copy, n_set_add, n_set_mix, n_set_scale, n_set_swap, n_set_copy, n_copy_add, n_copy_mix, n_copy_scale, n_copy_swap, n_copy_set, i_add_addset, i_mix_addset, i_scale_addset, i_swap_addset, i_set_addset, i_copy_addset, i_add_setcopy, i_mix_setcopy, i_scale_setcopy, i_swap_setcopy, i_set_setcopy, i_copy_setcopy, i_add_mixcopy, i_mix_mixcopy, i_scale_mixcopy, i_swap_mixcopy, i_set_mixcopy, i_copy_mixcopy, MH.seq, listF, tupleF, allF, MF.bools_map, ixD2, dgetD, dkey, eDct, ePs, putDct, keysD, mergeD, putD, valD, gn1, gn0, gn00, gs10, gs01, aI0, aI1, aI2, aI3, tame] using h
    refine ⟨?_, ?_⟩
    · show tames (f + 1) (.tup [.int p.1, .int p.2] :: cD cs) = true
      simp only [tames, i1, Bool.and_true]
      show (decide (([.int p.1, .int p.2] : List D).length ≤ 90) && tames f [.int p.1, .int p.2]) = true
      simp only [tames, ti a1, ti a2, Bool.and_self, Bool.and_true]
      exact decide_eq_true (show 2 ≤ 90 from by decide)
    · show tlys (.tup [.int p.1, .int p.2] :: cD cs) ≤ _
      simp only [tlys, tly, List.length_cons]
      omega
/-- what is shown of shape, row, state -/
theorem shown {bs ds : List Int} (s : Sh bs) (ok : Ok bs ds) {act : List D} (a : Act bs act) {cs : List (Nat × Int)} (hc : Conds bs.length cs) : tames 3 [.tup (bs.map .int), .tup [.tup act, .tup (cD cs)], .tup (ds.map .int)] = true ∧ tlys [.tup (bs.map .int), .tup [.tup act, .tup (cD cs)], .tup (ds.map .int)] ≤ 10000 := by
  have le := s.le
  have ll := ok.len
  have tb : ∀ v ∈ bs, 0 ≤ v ∧ v < 70 := fun v hv => by
    obtain ⟨k, hk, rfl⟩ := List.mem_iff_getElem.mp hv
    have := s.base k hk
    omega
  have td : ∀ v ∈ ds, 0 ≤ v ∧ v < 70 := fun v hv => by
    obtain ⟨k, hk, rfl⟩ := List.mem_iff_getElem.mp hv
    have := ok.dig k hk (by omega)
    have := s.base k (by omega)
    omega
  obtain ⟨a1, a2, a3⟩ := tame_act s a 1
  obtain ⟨c1, c2⟩ := tame_cD le hc.2 0
  have cl := hc.1
  have cc : (cD cs).length ≤ 90 := by simp [runD, sSeq, sRet, sIf, sSet, sEx, sSub, sNil, eVar, eC, eOp, eChain, tTruth, tBl, tNotM, tAndM, tOrM, eAndM, eOrM, eNotM, eIfM, aNil, aCons, eTup, eLst, mkLst, mkTup, eCB, eF, eSl, oPart, oNone, eUn, isB, truD, isiF, tyOf, subT, leD, ltD, gtD, geD, cmpD, lenF, lenN, neD, eqD, eqB, ofOpt, MM.keep, Res.bind, Res.toS, ixD, addD, subD, modD, fdivD, intF, List.replicate, setD, negD, mulD, sizeLine, sAsg, asg, asgs, items, sPar, n_add_mix, n_add_scale, n_add_swap, n_add_set, n_add_copy, n_mix_add, n_mix_scale, n_mix_swap, n_mix_set, n_mix_copy, n_scale_add, n_scale_mix, n_scale_swap, n_scale_set, n_scale_copy, n_swap_add, n_swap_mix, n_swap_scale, n_swap_set, n_swap_copy, n_set_add, n_set_mix, n_set_scale, n_set_swap, n_set_copy, n_copy_add, n_copy_mix, n_copy_scale, n_copy_swap, n_copy_set, i_add_addset, i_mix_addset, i_scale_addset, i_swap_addset, i_set_addset, i_copy_addset, i_add_setcopy, i_mix_setcopy, i_scale_setcopy, i_swap_setcopy, i_set_setcopy, i_copy_setcopy, i_add_mixcopy, i_mix_mixcopy, i_scale_mixcopy, i_swap_mixcopy, i_set_mixcopy, i_copy_mixcopy, MH.seq, listF, tupleF, allF, MF.bools_map, ixD2, dgetD, dkey, eDct, ePs, putDct, keysD, mergeD, putD, valD, gn1, gn0, gn00, gs10, gs01, aI0, aI1, aI2, aI3, cD]; omega
  have e1 := tame_ints (f := 2) tb
  have e2 := tame_ints (f := 2) td
  constructor
  · simp only [tames, tame, e1, e2, a1, c1, Bool.and_true, Bool.and_eq_true, decide_eq_true_eq]
    simp [runD, sSeq, sRet, sIf, sSet, sEx, sSub, sNil, eVar, eC, eOp, eChain, tTruth, tBl, tNotM, tAndM, tOrM, eAndM, eOrM, eNotM, eIfM, aNil, aCons, eTup, eLst, mkLst, mkTup, eCB, eF, eSl, oPart, oNone, eUn, isB, truD, isiF, tyOf, subT, leD, ltD, gtD, geD, cmpD, lenF, lenN, neD, eqD, eqB, ofOpt, MM.keep, Res.bind, Res.toS, ixD, addD, subD, modD, fdivD, intF, List.replicate, setD, negD, mulD, sizeLine, sAsg, asg, asgs, items, sPar, n_add_mix, n_add_scale, n_add_swap, n_add_set, n_add_copy, n_mix_add, n_mix_scale, n_mix_swap, n_mix_set, n_mix_copy, n_scale_add, n_scale_mix, n_scale_swap, n_scale_set, n_scale_copy, n_swap_add, n_swap_mix, n_swap_scale, n_swap_set, n_swap_copy, n_set_add, n_set_mix, n_set_scale, n_set_swap, n_set_copy, n_copy_add, n_copy_mix, n_copy_scale, n_copy_swap, n_copy_set, i_add_addset, i_mix_addset, i_scale_addset, i_swap_addset, i_set_addset, i_copy_addset, i_add_setcopy, i_mix_setcopy, i_scale_setcopy, i_swap_setcopy, i_set_setcopy, i_copy_setcopy, i_add_mixcopy, i_mix_mixcopy, i_scale_mixcopy, i_swap_mixcopy, i_set_mixcopy, i_copy_mixcopy, MH.seq, listF, tupleF, allF, MF.bools_map, ixD2, dgetD, dkey, eDct, ePs, putDct, keysD, mergeD, putD, valD, gn1, gn0, gn00, gs10, gs01, aI0, aI1, aI2, aI3]
    omega
  · simp only [tlys, tly, cnt_ints]
    omega
end K03

set_option Elab.async false
set_option linter.all false
set_option maxRecDepth 100000
set_option maxHeartbeats 4000000
set_option autoImplicit false
namespace K03
open PySem PySem.Spec PyProof.Rows L2 MM
theorem lstCons {m : Mx} {ms : Ma} {a : D} {as : List D} {env : ME} {h h1 : MH} (q1 : m env h = .ok a h1) (q2 : ms env h1 = .ok as h1 ∧ (a :: as).length ≤ sizeLine) : eLst (aCons m ms) env h = .ok (.ref h1.n) (h1.add (.lst (a :: as))) := by
  simp only [eLst, aCons, q1, q2.1, Res.bind, mkLst, if_pos q2.2, ofOpt]
def shapesD : List (List Int) := [[2, 2], [2], [3, 2], [2, 2, 2], [4, 2], [3, 3], [4, 3], [2, 3, 2], [5], [2, 2, 2, 2]]
def shapes5 : List (List Int) := [[2, 2, 2, 2, 2], [2, 3, 2, 2, 2], [2, 2, 2, 2, 2, 2], [4, 2, 2, 2, 2]]
theorem sh_all : ∀ bs ∈ shapesD ++ shapes5, Sh bs := by
  have : ∀ bs ∈ shapesD ++ shapes5, bs.length ≤ 6 ∧ 0 < bs.length ∧ ∀ b ∈ bs, 2 ≤ b ∧ b ≤ 5 := by decide
  intro bs h
  obtain ⟨a, b, c⟩ := this bs h
  exact ⟨a, b, fun k hk => c _ (List.getElem_mem hk)⟩
def tupsD (l : List (List Int)) : List D := l.map fun bs => .tup (bs.map .int)
theorem shape {i : Nat} {h : MH} (f : Fd i h h) : ∃ (bs : List Int) (h' : MH), bs ∈ shapesD ∧ m__law_shape [.ref i] h = .ok (.tup (bs.map .int)) h' ∧ Fd i h h' := by
  obtain ⟨x, h1, m, e, f1, n1⟩ := pick (i := i) (j := h.n) (h := h.add (.lst (tupsD shapesD))) (f.add _).lt (f.add _).fd (xs := tupsD shapesD) (MH.get_add_same _ _) (by have := f.lt; omega) (by simp [runD, sSeq, sRet, sIf, sSet, sEx, sSub, sNil, eVar, eC, eOp, eChain, tTruth, tBl, tNotM, tAndM, tOrM, eAndM, eOrM, eNotM, eIfM, aNil, aCons, eTup, eLst, mkLst, mkTup, eCB, eF, eSl, oPart, oNone, eUn, isB, truD, isiF, tyOf, subT, leD, ltD, gtD, geD, cmpD, lenF, lenN, neD, eqD, eqB, ofOpt, MM.keep, Res.bind, Res.toS, ixD, addD, subD, modD, fdivD, intF, List.replicate, setD, negD, mulD, sizeLine, sAsg, asg, asgs, items, sPar, n_add_mix, n_add_scale, n_add_swap, n_add_set, n_add_copy, n_mix_add, n_mix_scale, n_mix_swap, n_mix_set, n_mix_copy, n_scale_add, n_scale_mix, n_scale_swap, n_scale_set, n_scale_copy, n_swap_add, n_swap_mix, n_swap_scale, n_swap_set, n_swap_copy, n_set_add, n_set_mix, n_set_scale, n_set_swap, n_set_copy, n_copy_add, n_copy_mix, n_copy_scale, n_copy_swap, n_copy_set, i_add_addset, i_mix_addset, i_scale_addset, i_swap_addset, i_set_addset, i_copy_addset, i_add_setcopy, i_mix_setcopy, i_scale_setcopy, i_swap_setcopy, i_set_setcopy, i_copy_setcopy, i_add_mixcopy, i_mix_mixcopy, i_scale_mixcopy, i_swap_mixcopy, i_set_mixcopy, i_copy_mixcopy, MH.seq, listF, tupleF, allF, MF.bools_map, ixD2, dgetD, dkey, eDct, ePs, putDct, keysD, mergeD, putD, valD, gn1, gn0, gn00, gs10, gs01, aI0, aI1, aI2, aI3]) (by simp [runD, sSeq, sRet, sIf, sSet, sEx, sSub, sNil, eVar, eC, eOp, eChain, tTruth, tBl, tNotM, tAndM, tOrM, eAndM, eOrM, eNotM, eIfM, aNil, aCons, eTup, eLst, mkLst, mkTup, eCB, eF, eSl, oPart, oNone, eUn, isB, truD, isiF, tyOf, subT, leD, ltD, gtD, geD, cmpD, lenF, lenN, neD, eqD, eqB, ofOpt, MM.keep, Res.bind, Res.toS, ixD, addD, subD, modD, fdivD, intF, List.replicate, setD, negD, mulD, sizeLine, sAsg, asg, asgs, items, sPar, n_add_mix, n_add_scale, n_add_swap, n_add_set, n_add_copy, n_mix_add, n_mix_scale, n_mix_swap, n_mix_set, n_mix_copy, n_scale_add, n_scale_mix, n_scale_swap, n_scale_set, n_scale_copy, n_swap_add, n_swap_mix, n_swap_scale, n_swap_set, n_swap_copy, n_set_add, n_set_mix, n_set_scale, n_set_swap, n_set_copy, n_copy_add, n_copy_mix, n_copy_scale, n_copy_swap, n_copy_set, i_add_addset, i_mix_addset, i_scale_addset, i_swap_addset, i_set_addset, i_copy_addset, i_add_setcopy, i_mix_setcopy, i_scale_setcopy, i_swap_setcopy, i_set_setcopy, i_copy_setcopy, i_add_mixcopy, i_mix_mixcopy, i_scale_mixcopy, i_swap_mixcopy, i_set_mixcopy, i_copy_mixcopy, MH.seq, listF, tupleF, allF, MF.bools_map, ixD2, dgetD, dkey, eDct, ePs, putDct, keysD, mergeD, putD, valD, gn1, gn0, gn00, gs10, gs01, aI0, aI1, aI2, aI3, tupsD, shapesD]) (by simp [runD, sSeq, sRet, sIf, sSet, sEx, sSub, sNil, eVar, eC, eOp, eChain, tTruth, tBl, tNotM, tAndM, tOrM, eAndM, eOrM, eNotM, eIfM, aNil, aCons, eTup, eLst, mkLst, mkTup, eCB, eF, eSl, oPart, oNone, eUn, isB, truD, isiF, tyOf, subT, leD, ltD, gtD, geD, cmpD, lenF, lenN, neD, eqD, eqB, ofOpt, MM.keep, Res.bind, Res.toS, ixD, addD, subD, modD, fdivD, intF, List.replicate, setD, negD, mulD, sizeLine, sAsg, asg, asgs, items, sPar, n_add_mix, n_add_scale, n_add_swap, n_add_set, n_add_copy, n_mix_add, n_mix_scale, n_mix_swap, n_mix_set, n_mix_copy, n_scale_add, n_scale_mix, n_scale_swap, n_scale_set, n_scale_copy, n_swap_add, n_swap_mix, n_swap_scale, n_swap_set, n_swap_copy, n_set_add, n_set_mix, n_set_scale, n_set_swap, n_set_copy, n_copy_add, n_copy_mix, n_copy_scale, n_copy_swap, n_copy_set, i_add_addset, i_mix_addset, i_scale_addset, i_swap_addset, i_set_addset, i_copy_addset, i_add_setcopy, i_mix_setcopy, i_scale_setcopy, i_swap_setcopy, i_set_setcopy, i_copy_setcopy, i_add_mixcopy, i_mix_mixcopy, i_scale_mixcopy, i_swap_mixcopy, i_set_mixcopy, i_copy_mixcopy, MH.seq, listF, tupleF, allF, MF.bools_map, ixD2, dgetD, dkey, eDct, ePs, putDct, keysD, mergeD, putD, valD, gn1, gn0, gn00, gs10, gs01, aI0, aI1, aI2, aI3, tupsD, shapesD])
  obtain ⟨bs, mb, rfl⟩ := List.mem_map.mp m
  refine ⟨bs, h1, mb, ?_, (f.add _).trans f1⟩
  simp [runD, sSeq, sRet, sIf, sSet, sEx, sSub, sNil, eVar, eC, eOp, eChain, tTruth, tBl, tNotM, tAndM, tOrM, eAndM, eOrM, eNotM, eIfM, aNil, aCons, eTup, eLst, mkLst, mkTup, eCB, eF, eSl, oPart, oNone, eUn, isB, truD, isiF, tyOf, subT, leD, ltD, gtD, geD, cmpD, lenF, lenN, neD, eqD, eqB, ofOpt, MM.keep, Res.bind, Res.toS, ixD, addD, subD, modD, fdivD, intF, List.replicate, setD, negD, mulD, sizeLine, sAsg, asg, asgs, items, sPar, n_add_mix, n_add_scale, n_add_swap, n_add_set, n_add_copy, n_mix_add, n_mix_scale, n_mix_swap, n_mix_set, n_mix_copy, n_scale_add, n_scale_mix, n_scale_swap, n_scale_set, n_scale_copy, n_swap_add, n_swap_mix, n_swap_scale, n_swap_set, n_swap_copy, n_set_add, n_set_mix, n_set_scale, n_set_swap, n_set_copy, n_copy_add, n_copy_mix, n_copy_scale, n_copy_swap, n_copy_set, i_add_addset, i_mix_addset, i_scale_addset, i_swap_addset, i_set_addset, i_copy_addset, i_add_setcopy, i_mix_setcopy, i_scale_setcopy, i_swap_setcopy, i_set_setcopy, i_copy_setcopy, i_add_mixcopy, i_mix_mixcopy, i_scale_mixcopy, i_swap_mixcopy, i_set_mixcopy, i_copy_mixcopy, MH.seq, listF, tupleF, allF, MF.bools_map, ixD2, dgetD, dkey, eDct, ePs, putDct, keysD, mergeD, putD, valD, gn1, gn0, gn00, gs10, gs01, aI0, aI1, aI2, aI3, tupsD, shapesD] at e
  unfold m__law_shape b__law_shape
  simp [runD, sSeq, sRet, sIf, sSet, sEx, sSub, sNil, eVar, eC, eOp, eChain, tTruth, tBl, tNotM, tAndM, tOrM, eAndM, eOrM, eNotM, eIfM, aNil, aCons, eTup, eLst, mkLst, mkTup, eCB, eF, eSl, oPart, oNone, eUn, isB, truD, isiF, tyOf, subT, leD, ltD, gtD, geD, cmpD, lenF, lenN, neD, eqD, eqB, ofOpt, MM.keep, Res.bind, Res.toS, ixD, addD, subD, modD, fdivD, intF, List.replicate, setD, negD, mulD, sizeLine, sAsg, asg, asgs, items, sPar, n_add_mix, n_add_scale, n_add_swap, n_add_set, n_add_copy, n_mix_add, n_mix_scale, n_mix_swap, n_mix_set, n_mix_copy, n_scale_add, n_scale_mix, n_scale_swap, n_scale_set, n_scale_copy, n_swap_add, n_swap_mix, n_swap_scale, n_swap_set, n_swap_copy, n_set_add, n_set_mix, n_set_scale, n_set_swap, n_set_copy, n_copy_add, n_copy_mix, n_copy_scale, n_copy_swap, n_copy_set, i_add_addset, i_mix_addset, i_scale_addset, i_swap_addset, i_set_addset, i_copy_addset, i_add_setcopy, i_mix_setcopy, i_scale_setcopy, i_swap_setcopy, i_set_setcopy, i_copy_setcopy, i_add_mixcopy, i_mix_mixcopy, i_scale_mixcopy, i_swap_mixcopy, i_set_mixcopy, i_copy_mixcopy, MH.seq, listF, tupleF, allF, MF.bools_map, ixD2, dgetD, dkey, eDct, ePs, putDct, keysD, mergeD, putD, valD, gn1, gn0, gn00, gs10, gs01, aI0, aI1, aI2, aI3, e]
structure In (wr F : Nat) (bs : List Int) (h0 : MH) (env : ME) (h : MH) : Prop where
  en : ∃ x2 x5 x6 x7 x8 x9, env = [some (.ref 0), some (.ref wr), x2, some (.ref F), some (.tup (bs.map .int)), x5, x6, x7, x8, x9]
  fd : Fd F h0 h
  gw : h.get wr = some (.lst wordsD)
  wF : wr ≠ F
  wn : wr < h0.n
theorem turn {wr F : Nat} {bs : List Int} (s : Sh bs) {h0 : MH} {env : ME} {h : MH} (I : In wr F bs h0 env h) : ∃ (e2 : ME) (h2 : MH), l_law_10 env h = .nx e2 h2 ∧ In wr F bs h0 e2 h2 := by
  obtain ⟨⟨x2, x5, x6, x7, x8, x9, rfl⟩, fd, gw, wF, wn⟩ := I
  have le := s.le
  have ge := s.ge
  have le0 := fd.le
  obtain ⟨act1, cs1, h1, e1, a1, c1, f1⟩ := row s fd.self gw (by omega) wF
  obtain ⟨ds, h2, e2, f2, l2, d2⟩ := MF.state (i := F) (bs := bs) (by omega) (fun b hb => by
    obtain ⟨k, hk, rfl⟩ := List.mem_iff_getElem.mp hb
    have := s.base k hk
    omega) h1 f1.self
  have ok : Ok bs ds := ⟨l2, le, ge, s.base, fun k q1 q2 => d2 k q1 q2⟩
  have fA := fd.trans (f1.trans f2)
  obtain ⟨r, h3, r0, r1, e3, f3, n3⟩ := take f2.lt f2.fd (m := 5) (by decide) (by decide)
  have s5 : s_law_5 [some (.ref 0), some (.ref wr), x2, some (.ref F), some (.tup (bs.map .int)), x5, x6, x7, x8, x9] h =
      .nx [some (.ref 0), some (.ref wr), x2, some (.ref F), some (.tup (bs.map .int)), x5, some (.tup [.tup act1, .tup (cD cs1)]), some (.tup (ds.map .int)), x8, x9] h2 :=
    parT (eF3 (h1 := h) (h2 := h) (h3 := h) rfl rfl rfl e1) (eF2 (h1 := h1) (h2 := h1) rfl rfl e2)
  have tk : eF m__law_take (aCons (eVar 3) (aCons (eC (.int (5))) aNil)) [some (.ref 0), some (.ref wr), x2, some (.ref F), some (.tup (bs.map .int)), x5, some (.tup [.tup act1, .tup (cD cs1)]), some (.tup (ds.map .int)), x8, x9] h2 = .ok (.int r) h3 := eF2 (h1 := h2) (h2 := h2) rfl rfl e3
  have s6 : ∃ (act : List D) (cs : List (Nat × Int)) (y8 : Option D) (h4 : MH), s_law_6 [some (.ref 0), some (.ref wr), x2, some (.ref F), some (.tup (bs.map .int)), x5, some (.tup [.tup act1, .tup (cD cs1)]), some (.tup (ds.map .int)), x8, x9] h2 =
      .nx [some (.ref 0), some (.ref wr), x2, some (.ref F), some (.tup (bs.map .int)), x5, some (.tup [.tup act, .tup (cD cs)]), some (.tup (ds.map .int)), y8, x9] h4 ∧ Act bs act ∧ Conds bs.length cs ∧ Fd F h2 h4 := by
    unfold s_law_6
    by_cases hr : r = 0
    · have t : tBl (eOp eqD (eF m__law_take (aCons (eVar 3) (aCons (eC (.int (5))) aNil))) (eC (.int (0)))) [some (.ref 0), some (.ref wr), x2, some (.ref F), some (.tup (bs.map .int)), x5, some (.tup [.tup act1, .tup (cD cs1)]), some (.tup (ds.map .int)), x8, x9] h2 = .ok true h3 :=
        tBl_ok (eOp2 (h2 := h3) tk rfl (by simp [runD, sSeq, sRet, sIf, sSet, sEx, sSub, sNil, eVar, eC, eOp, eChain, tTruth, tBl, tNotM, tAndM, tOrM, eAndM, eOrM, eNotM, eIfM, aNil, aCons, eTup, eLst, mkLst, mkTup, eCB, eF, eSl, oPart, oNone, eUn, isB, truD, isiF, tyOf, subT, leD, ltD, gtD, geD, cmpD, lenF, lenN, neD, eqD, eqB, ofOpt, MM.keep, Res.bind, Res.toS, ixD, addD, subD, modD, fdivD, intF, List.replicate, setD, negD, mulD, sizeLine, sAsg, asg, asgs, items, sPar, n_add_mix, n_add_scale, n_add_swap, n_add_set, n_add_copy, n_mix_add, n_mix_scale, n_mix_swap, n_mix_set, n_mix_copy, n_scale_add, n_scale_mix, n_scale_swap, n_scale_set, n_scale_copy, n_swap_add, n_swap_mix, n_swap_scale, n_swap_set, n_swap_copy, n_set_add, n_set_mix, n_set_scale, n_set_swap, n_set_copy, n_copy_add, n_copy_mix, n_copy_scale, n_copy_swap, n_copy_set, i_add_addset, i_mix_addset, i_scale_addset, i_swap_addset, i_set_addset, i_copy_addset, i_add_setcopy, i_mix_setcopy, i_scale_setcopy, i_swap_setcopy, i_set_setcopy, i_copy_setcopy, i_add_mixcopy, i_mix_mixcopy, i_scale_mixcopy, i_swap_mixcopy, i_set_mixcopy, i_copy_mixcopy, MH.seq, listF, tupleF, allF, MF.bools_map, ixD2, dgetD, dkey, eDct, ePs, putDct, keysD, mergeD, putD, valD, gn1, gn0, gn00, gs10, gs01, aI0, aI1, aI2, aI3, hr]))
      obtain ⟨j0, h4, j1, j2, e4, f4, n4⟩ := take f3.lt f3.fd (m := (bs.length : Int)) (by omega) (by omega)
      obtain ⟨j, rfl⟩ := Int.eq_ofNat_of_zero_le j1
      have hj : j < bs.length := by omega
      have bj := s.at hj
      have xj := ix_at (ds := bs) hj
      obtain ⟨c, h5, c0, c1', e5, f5, n5⟩ := take f4.lt f4.fd (m := at_ bs j) (by omega) (by omega)
      have ln := lenE (k := 4) (xs := bs.map D.int) (env := [some (.ref 0), some (.ref wr), x2, some (.ref F), some (.tup (bs.map .int)), x5, some (.tup [.tup act1, .tup (cD cs1)]), some (.tup (ds.map .int)), x8, x9]) (h := h3) rfl
      rw [List.length_map] at ln
      refine ⟨[.str (Str.ofString "scale"), .int j, .int c], [], some (.int j), h5, (sIf_go t).trans ((sSeq_nx (sSet_ok (eF2 (h1 := h3) (h2 := h3) rfl ln e4))).trans ?_), .scale hj c0 c1', ⟨by simp [runD, sSeq, sRet, sIf, sSet, sEx, sSub, sNil, eVar, eC, eOp, eChain, tTruth, tBl, tNotM, tAndM, tOrM, eAndM, eOrM, eNotM, eIfM, aNil, aCons, eTup, eLst, mkLst, mkTup, eCB, eF, eSl, oPart, oNone, eUn, isB, truD, isiF, tyOf, subT, leD, ltD, gtD, geD, cmpD, lenF, lenN, neD, eqD, eqB, ofOpt, MM.keep, Res.bind, Res.toS, ixD, addD, subD, modD, fdivD, intF, List.replicate, setD, negD, mulD, sizeLine, sAsg, asg, asgs, items, sPar, n_add_mix, n_add_scale, n_add_swap, n_add_set, n_add_copy, n_mix_add, n_mix_scale, n_mix_swap, n_mix_set, n_mix_copy, n_scale_add, n_scale_mix, n_scale_swap, n_scale_set, n_scale_copy, n_swap_add, n_swap_mix, n_swap_scale, n_swap_set, n_swap_copy, n_set_add, n_set_mix, n_set_scale, n_set_swap, n_set_copy, n_copy_add, n_copy_mix, n_copy_scale, n_copy_swap, n_copy_set, i_add_addset, i_mix_addset, i_scale_addset, i_swap_addset, i_set_addset, i_copy_addset, i_add_setcopy, i_mix_setcopy, i_scale_setcopy, i_swap_setcopy, i_set_setcopy, i_copy_setcopy, i_add_mixcopy, i_mix_mixcopy, i_scale_mixcopy, i_swap_mixcopy, i_set_mixcopy, i_copy_mixcopy, MH.seq, listF, tupleF, allF, MF.bools_map, ixD2, dgetD, dkey, eDct, ePs, putDct, keysD, mergeD, putD, valD, gn1, gn0, gn00, gs10, gs01, aI0, aI1, aI2, aI3], by simp [runD, sSeq, sRet, sIf, sSet, sEx, sSub, sNil, eVar, eC, eOp, eChain, tTruth, tBl, tNotM, tAndM, tOrM, eAndM, eOrM, eNotM, eIfM, aNil, aCons, eTup, eLst, mkLst, mkTup, eCB, eF, eSl, oPart, oNone, eUn, isB, truD, isiF, tyOf, subT, leD, ltD, gtD, geD, cmpD, lenF, lenN, neD, eqD, eqB, ofOpt, MM.keep, Res.bind, Res.toS, ixD, addD, subD, modD, fdivD, intF, List.replicate, setD, negD, mulD, sizeLine, sAsg, asg, asgs, items, sPar, n_add_mix, n_add_scale, n_add_swap, n_add_set, n_add_copy, n_mix_add, n_mix_scale, n_mix_swap, n_mix_set, n_mix_copy, n_scale_add, n_scale_mix, n_scale_swap, n_scale_set, n_scale_copy, n_swap_add, n_swap_mix, n_swap_scale, n_swap_set, n_swap_copy, n_set_add, n_set_mix, n_set_scale, n_set_swap, n_set_copy, n_copy_add, n_copy_mix, n_copy_scale, n_copy_swap, n_copy_set, i_add_addset, i_mix_addset, i_scale_addset, i_swap_addset, i_set_addset, i_copy_addset, i_add_setcopy, i_mix_setcopy, i_scale_setcopy, i_swap_setcopy, i_set_setcopy, i_copy_setcopy, i_add_mixcopy, i_mix_mixcopy, i_scale_mixcopy, i_swap_mixcopy, i_set_mixcopy, i_copy_mixcopy, MH.seq, listF, tupleF, allF, MF.bools_map, ixD2, dgetD, dkey, eDct, ePs, putDct, keysD, mergeD, putD, valD, gn1, gn0, gn00, gs10, gs01, aI0, aI1, aI2, aI3]⟩, f3.trans (f4.trans f5)⟩
      have tk2 := eF2 (f := m__law_take) (m1 := eVar 3) (m2 := eOp ixD (eVar 4) (eVar 8)) (env := [some (.ref 0), some (.ref wr), x2, some (.ref F), some (.tup (bs.map .int)), x5, some (.tup [.tup act1, .tup (cD cs1)]), some (.tup (ds.map .int)), some (.int j), x9]) (h := h4) (h1 := h4) (h2 := h4) rfl (eOp2 (h1 := h4) (h2 := h4) rfl rfl (by simp [runD, sSeq, sRet, sIf, sSet, sEx, sSub, sNil, eVar, eC, eOp, eChain, tTruth, tBl, tNotM, tAndM, tOrM, eAndM, eOrM, eNotM, eIfM, aNil, aCons, eTup, eLst, mkLst, mkTup, eCB, eF, eSl, oPart, oNone, eUn, isB, truD, isiF, tyOf, subT, leD, ltD, gtD, geD, cmpD, lenF, lenN, neD, eqD, eqB, ofOpt, MM.keep, Res.bind, Res.toS, ixD, addD, subD, modD, fdivD, intF, List.replicate, setD, negD, mulD, sizeLine, sAsg, asg, asgs, items, sPar, n_add_mix, n_add_scale, n_add_swap, n_add_set, n_add_copy, n_mix_add, n_mix_scale, n_mix_swap, n_mix_set, n_mix_copy, n_scale_add, n_scale_mix, n_scale_swap, n_scale_set, n_scale_copy, n_swap_add, n_swap_mix, n_swap_scale, n_swap_set, n_swap_copy, n_set_add, n_set_mix, n_set_scale, n_set_swap, n_set_copy, n_copy_add, n_copy_mix, n_copy_scale, n_copy_swap, n_copy_set, i_add_addset, i_mix_addset, i_scale_addset, i_swap_addset, i_set_addset, i_copy_addset, i_add_setcopy, i_mix_setcopy, i_scale_setcopy, i_swap_setcopy, i_set_setcopy, i_copy_setcopy, i_add_mixcopy, i_mix_mixcopy, i_scale_mixcopy, i_swap_mixcopy, i_set_mixcopy, i_copy_mixcopy, MH.seq, listF, tupleF, allF, MF.bools_map, ixD2, dgetD, dkey, eDct, ePs, putDct, keysD, mergeD, putD, valD, gn1, gn0, gn00, gs10, gs01, aI0, aI1, aI2, aI3, xj])) e5
      have tri : eTup (aCons (eC (.str (Str.ofString "scale"))) (aCons (eVar 8) (aCons (eF m__law_take (aCons (eVar 3) (aCons (eOp ixD (eVar 4) (eVar 8)) aNil))) aNil))) [some (.ref 0), some (.ref wr), x2, some (.ref F), some (.tup (bs.map .int)), x5, some (.tup [.tup act1, .tup (cD cs1)]), some (.tup (ds.map .int)), some (.int j), x9] h4 = .ok (.tup [.str (Str.ofString "scale"), .int j, .int c]) h5 := threeT (h1 := h4) (h2 := h4) rfl rfl tk2
      exact sSet_ok (twoT (h2 := h5) tri rfl)
    · have t : tBl (eOp eqD (eF m__law_take (aCons (eVar 3) (aCons (eC (.int (5))) aNil))) (eC (.int (0)))) [some (.ref 0), some (.ref wr), x2, some (.ref F), some (.tup (bs.map .int)), x5, some (.tup [.tup act1, .tup (cD cs1)]), some (.tup (ds.map .int)), x8, x9] h2 = .ok false h3 :=
        tBl_ok (eOp2 (h2 := h3) tk rfl (by simp [runD, sSeq, sRet, sIf, sSet, sEx, sSub, sNil, eVar, eC, eOp, eChain, tTruth, tBl, tNotM, tAndM, tOrM, eAndM, eOrM, eNotM, eIfM, aNil, aCons, eTup, eLst, mkLst, mkTup, eCB, eF, eSl, oPart, oNone, eUn, isB, truD, isiF, tyOf, subT, leD, ltD, gtD, geD, cmpD, lenF, lenN, neD, eqD, eqB, ofOpt, MM.keep, Res.bind, Res.toS, ixD, addD, subD, modD, fdivD, intF, List.replicate, setD, negD, mulD, sizeLine, sAsg, asg, asgs, items, sPar, n_add_mix, n_add_scale, n_add_swap, n_add_set, n_add_copy, n_mix_add, n_mix_scale, n_mix_swap, n_mix_set, n_mix_copy, n_scale_add, n_scale_mix, n_scale_swap, n_scale_set, n_scale_copy, n_swap_add, n_swap_mix, n_swap_scale, n_swap_set, n_swap_copy, n_set_add, n_set_mix, n_set_scale, n_set_swap, n_set_copy, n_copy_add, n_copy_mix, n_copy_scale, n_copy_swap, n_copy_set, i_add_addset, i_mix_addset, i_scale_addset, i_swap_addset, i_set_addset, i_copy_addset, i_add_setcopy, i_mix_setcopy, i_scale_setcopy, i_swap_setcopy, i_set_setcopy, i_copy_setcopy, i_add_mixcopy, i_mix_mixcopy, i_scale_mixcopy, i_swap_mixcopy, i_set_mixcopy, i_copy_mixcopy, MH.seq, listF, tupleF, allF, MF.bools_map, ixD2, dgetD, dkey, eDct, ePs, putDct, keysD, mergeD, putD, valD, gn1, gn0, gn00, gs10, gs01, aI0, aI1, aI2, aI3, hr]))
      exact ⟨act1, cs1, x8, h3, (sIf_not t).trans rfl, a1, c1, f3⟩
  obtain ⟨act, cs, y8, h4, s6, a4, c4, f4⟩ := s6
  obtain ⟨tm, ty⟩ := shown s ok a4 c4
  have fB := fA.trans f4
  let R : List D := [.tup (bs.map .int), .tup [.tup act, .tup (cD cs)], .tup (ds.map .int)]
  let p := PyData.list (plains R)
  have rp : ∀ h : MH, reprF [.ref h.n] (h.add (.lst R)) = some (.rep p, h.add (.lst R)) := fun h => repr_list (MH.get_add_same h _) tm (by decide) ty
  have s7 : s_law_7 [some (.ref 0), some (.ref wr), x2, some (.ref F), some (.tup (bs.map .int)), x5, some (.tup [.tup act, .tup (cD cs)]), some (.tup (ds.map .int)), y8, x9] h4 =
      .nx [some (.ref 0), some (.ref wr), x2, some (.ref F), some (.tup (bs.map .int)), x5, some (.tup [.tup act, .tup (cD cs)]), some (.tup (ds.map .int)), y8, some (.rep p)] (h4.add (.lst R)) :=
    sSet_ok (eCB1 (threeL (h1 := h4) (h2 := h4) (h3 := h4) rfl rfl rfl) (rp h4))
  obtain ⟨rs, q1, q2, q3, q4⟩ := dones ok a4 (by rw [l2]; exact c4) (h4.add (.lst R))
  have rrs : reprF [.tup (rs.map .int)] (h4.add (.lst R)) = some (.rep (plain (.tup (rs.map .int))), h4.add (.lst R)) := repr_tame (f := 1) (by
    have := tame_ints (f := 0) q4
    simp only [tame, this, Bool.and_true, decide_eq_true_eq, List.length_map]
    omega) (by decide) (by simp only [tly, cnt_ints]; omega)
  have s8 : s_law_8 [some (.ref 0), some (.ref wr), x2, some (.ref F), some (.tup (bs.map .int)), x5, some (.tup [.tup act, .tup (cD cs)]), some (.tup (ds.map .int)), y8, some (.rep p)] (h4.add (.lst R)) =
      .nx [some (.ref 0), some (.ref wr), x2, some (.ref F), some (.tup (bs.map .int)), x5, some (.tup [.tup act, .tup (cD cs)]), some (.tup (ds.map .int)), y8, some (.rep p)] (h4.add (.lst R)) :=
    (sIf_not (tBl_ok (eOp2 (eCB1 (eF3 (h1 := h4.add (.lst R)) (h2 := h4.add (.lst R)) (h3 := h4.add (.lst R)) rfl rfl rfl q1) rrs) (eCB1 (eF3 (h1 := h4.add (.lst R)) (h2 := h4.add (.lst R)) (h3 := h4.add (.lst R)) rfl rfl rfl q2) rrs) neRep))).trans rfl
  obtain ⟨k, w1, w2⟩ := losts s.base a4 cs (h4.add (.lst R))
  have rk : reprF [.bl k] (h4.add (.lst R)) = some (.rep (.bool k), h4.add (.lst R)) := by cases k <;> rfl
  have s9 : s_law_9 [some (.ref 0), some (.ref wr), x2, some (.ref F), some (.tup (bs.map .int)), x5, some (.tup [.tup act, .tup (cD cs)]), some (.tup (ds.map .int)), y8, some (.rep p)] (h4.add (.lst R)) =
      .nx [some (.ref 0), some (.ref wr), x2, some (.ref F), some (.tup (bs.map .int)), x5, some (.tup [.tup act, .tup (cD cs)]), some (.tup (ds.map .int)), y8, some (.rep p)] ((h4.add (.lst R)).add (.lst R)) :=
    (sIf_not (tOr_no (tBl_ok (eOp2 (eCB1 (eF2 (h1 := h4.add (.lst R)) (h2 := h4.add (.lst R)) rfl rfl w1) rk) (eCB1 (eF2 (h1 := h4.add (.lst R)) (h2 := h4.add (.lst R)) rfl rfl w2) rk) neRep))
      (tBl_ok (eOp2 (eCB1 (threeL (h1 := h4.add (.lst R)) (h2 := h4.add (.lst R)) (h3 := h4.add (.lst R)) rfl rfl rfl) (rp (h4.add (.lst R)))) rfl neRep)))).trans rfl
  refine ⟨_, (h4.add (.lst R)).add (.lst R), (sSeq_nx s5).trans ((sSeq_nx s6).trans ((sSeq_nx s7).trans ((sSeq_nx s8).trans s9))), ⟨_, _, _, _, _, _, rfl⟩, (fB.add _).add _, ?_, wF, wn⟩
  have le4 := fB.le
  rw [MH.get_add_ne _ _ (by simp [runD, sSeq, sRet, sIf, sSet, sEx, sSub, sNil, eVar, eC, eOp, eChain, tTruth, tBl, tNotM, tAndM, tOrM, eAndM, eOrM, eNotM, eIfM, aNil, aCons, eTup, eLst, mkLst, mkTup, eCB, eF, eSl, oPart, oNone, eUn, isB, truD, isiF, tyOf, subT, leD, ltD, gtD, geD, cmpD, lenF, lenN, neD, eqD, eqB, ofOpt, MM.keep, Res.bind, Res.toS, ixD, addD, subD, modD, fdivD, intF, List.replicate, setD, negD, mulD, sizeLine, sAsg, asg, asgs, items, sPar, n_add_mix, n_add_scale, n_add_swap, n_add_set, n_add_copy, n_mix_add, n_mix_scale, n_mix_swap, n_mix_set, n_mix_copy, n_scale_add, n_scale_mix, n_scale_swap, n_scale_set, n_scale_copy, n_swap_add, n_swap_mix, n_swap_scale, n_swap_set, n_swap_copy, n_set_add, n_set_mix, n_set_scale, n_set_swap, n_set_copy, n_copy_add, n_copy_mix, n_copy_scale, n_copy_swap, n_copy_set, i_add_addset, i_mix_addset, i_scale_addset, i_swap_addset, i_set_addset, i_copy_addset, i_add_setcopy, i_mix_setcopy, i_scale_setcopy, i_swap_setcopy, i_set_setcopy, i_copy_setcopy, i_add_mixcopy, i_mix_mixcopy, i_scale_mixcopy, i_swap_mixcopy, i_set_mixcopy, i_copy_mixcopy, MH.seq, listF, tupleF, allF, MF.bools_map, ixD2, dgetD, dkey, eDct, ePs, putDct, keysD, mergeD, putD, valD, gn1, gn0, gn00, gs10, gs01, aI0, aI1, aI2, aI3]; omega), MH.get_add_ne _ _ (by omega), f4.ot _ wF (by have := f2.le; have := f1.le; omega), f2.ot _ wF (by have := f1.le; omega), f1.ot _ wF (by omega)]
  exact gw
theorem out {wr : Nat} {k : Int} {ns : List Int} {b : Bool} {h : MH} (k0 : 0 ≤ k) (k1 : k < 100) (hs : h.get 0 = some (if b = true then .kl (ns.map D.int) else .ro (ns.map D.int))) (gw : h.get wr = some (.lst wordsD)) (gn : wr < h.n) (hn : 0 < h.n)
    {x3 x4 x5 x6 x7 x8 x9 : Option D} : ∃ (e2 : ME) (h2 : MH), l_law_14 [some (.ref 0), some (.ref wr), some (.int k), x3, x4, x5, x6, x7, x8, x9] h = .nx e2 h2 ∧ (∃ y2 y3 y4 y5 y6 y7 y8 y9, e2 = [some (.ref 0), some (.ref wr), y2, y3, y4, y5, y6, y7, y8, y9]) ∧ Ext h h2 := by
  obtain ⟨h1, e1, a1, f1⟩ := MF.feed hs k0 k1
  have le1 := a1.le
  have s11 : s_law_11 [some (.ref 0), some (.ref wr), some (.int k), x3, x4, x5, x6, x7, x8, x9] h = .nx [some (.ref 0), some (.ref wr), some (.int k), some (.ref h.n), x4, x5, x6, x7, x8, x9] h1 :=
    sSet_ok (eF2 (h1 := h) (h2 := h) rfl rfl e1)
  obtain ⟨bs0, h2, m2, e2, f2⟩ := shape f1
  let L5 : List D := .tup (bs0.map .int) :: tupsD shapes5
  obtain ⟨x, h3, m3, e3, f3, n3⟩ := pick (i := h.n) (j := h2.n) (h := h2.add (.lst L5)) (f2.add _).lt (f2.add _).fd (xs := L5) (MH.get_add_same _ _) (by have := f2.lt; omega) (by simp [runD, sSeq, sRet, sIf, sSet, sEx, sSub, sNil, eVar, eC, eOp, eChain, tTruth, tBl, tNotM, tAndM, tOrM, eAndM, eOrM, eNotM, eIfM, aNil, aCons, eTup, eLst, mkLst, mkTup, eCB, eF, eSl, oPart, oNone, eUn, isB, truD, isiF, tyOf, subT, leD, ltD, gtD, geD, cmpD, lenF, lenN, neD, eqD, eqB, ofOpt, MM.keep, Res.bind, Res.toS, ixD, addD, subD, modD, fdivD, intF, List.replicate, setD, negD, mulD, sizeLine, sAsg, asg, asgs, items, sPar, n_add_mix, n_add_scale, n_add_swap, n_add_set, n_add_copy, n_mix_add, n_mix_scale, n_mix_swap, n_mix_set, n_mix_copy, n_scale_add, n_scale_mix, n_scale_swap, n_scale_set, n_scale_copy, n_swap_add, n_swap_mix, n_swap_scale, n_swap_set, n_swap_copy, n_set_add, n_set_mix, n_set_scale, n_set_swap, n_set_copy, n_copy_add, n_copy_mix, n_copy_scale, n_copy_swap, n_copy_set, i_add_addset, i_mix_addset, i_scale_addset, i_swap_addset, i_set_addset, i_copy_addset, i_add_setcopy, i_mix_setcopy, i_scale_setcopy, i_swap_setcopy, i_set_setcopy, i_copy_setcopy, i_add_mixcopy, i_mix_mixcopy, i_scale_mixcopy, i_swap_mixcopy, i_set_mixcopy, i_copy_mixcopy, MH.seq, listF, tupleF, allF, MF.bools_map, ixD2, dgetD, dkey, eDct, ePs, putDct, keysD, mergeD, putD, valD, gn1, gn0, gn00, gs10, gs01, aI0, aI1, aI2, aI3]) (by simp [runD, sSeq, sRet, sIf, sSet, sEx, sSub, sNil, eVar, eC, eOp, eChain, tTruth, tBl, tNotM, tAndM, tOrM, eAndM, eOrM, eNotM, eIfM, aNil, aCons, eTup, eLst, mkLst, mkTup, eCB, eF, eSl, oPart, oNone, eUn, isB, truD, isiF, tyOf, subT, leD, ltD, gtD, geD, cmpD, lenF, lenN, neD, eqD, eqB, ofOpt, MM.keep, Res.bind, Res.toS, ixD, addD, subD, modD, fdivD, intF, List.replicate, setD, negD, mulD, sizeLine, sAsg, asg, asgs, items, sPar, n_add_mix, n_add_scale, n_add_swap, n_add_set, n_add_copy, n_mix_add, n_mix_scale, n_mix_swap, n_mix_set, n_mix_copy, n_scale_add, n_scale_mix, n_scale_swap, n_scale_set, n_scale_copy, n_swap_add, n_swap_mix, n_swap_scale, n_swap_set, n_swap_copy, n_set_add, n_set_mix, n_set_scale, n_set_swap, n_set_copy, n_copy_add, n_copy_mix, n_copy_scale, n_copy_swap, n_copy_set, i_add_addset, i_mix_addset, i_scale_addset, i_swap_addset, i_set_addset, i_copy_addset, i_add_setcopy, i_mix_setcopy, i_scale_setcopy, i_swap_setcopy, i_set_setcopy, i_copy_setcopy, i_add_mixcopy, i_mix_mixcopy, i_scale_mixcopy, i_swap_mixcopy, i_set_mixcopy, i_copy_mixcopy, MH.seq, listF, tupleF, allF, MF.bools_map, ixD2, dgetD, dkey, eDct, ePs, putDct, keysD, mergeD, putD, valD, gn1, gn0, gn00, gs10, gs01, aI0, aI1, aI2, aI3, L5]) (by simp [runD, sSeq, sRet, sIf, sSet, sEx, sSub, sNil, eVar, eC, eOp, eChain, tTruth, tBl, tNotM, tAndM, tOrM, eAndM, eOrM, eNotM, eIfM, aNil, aCons, eTup, eLst, mkLst, mkTup, eCB, eF, eSl, oPart, oNone, eUn, isB, truD, isiF, tyOf, subT, leD, ltD, gtD, geD, cmpD, lenF, lenN, neD, eqD, eqB, ofOpt, MM.keep, Res.bind, Res.toS, ixD, addD, subD, modD, fdivD, intF, List.replicate, setD, negD, mulD, sizeLine, sAsg, asg, asgs, items, sPar, n_add_mix, n_add_scale, n_add_swap, n_add_set, n_add_copy, n_mix_add, n_mix_scale, n_mix_swap, n_mix_set, n_mix_copy, n_scale_add, n_scale_mix, n_scale_swap, n_scale_set, n_scale_copy, n_swap_add, n_swap_mix, n_swap_scale, n_swap_set, n_swap_copy, n_set_add, n_set_mix, n_set_scale, n_set_swap, n_set_copy, n_copy_add, n_copy_mix, n_copy_scale, n_copy_swap, n_copy_set, i_add_addset, i_mix_addset, i_scale_addset, i_swap_addset, i_set_addset, i_copy_addset, i_add_setcopy, i_mix_setcopy, i_scale_setcopy, i_swap_setcopy, i_set_setcopy, i_copy_setcopy, i_add_mixcopy, i_mix_mixcopy, i_scale_mixcopy, i_swap_mixcopy, i_set_mixcopy, i_copy_mixcopy, MH.seq, listF, tupleF, allF, MF.bools_map, ixD2, dgetD, dkey, eDct, ePs, putDct, keysD, mergeD, putD, valD, gn1, gn0, gn00, gs10, gs01, aI0, aI1, aI2, aI3, L5, tupsD, shapes5])
  obtain ⟨bs, mb, rfl⟩ : ∃ bs ∈ shapesD ++ shapes5, x = .tup (bs.map .int) := by
    rcases List.mem_cons.mp m3 with rfl | z
    · exact ⟨bs0, List.mem_append_left _ m2, rfl⟩
    · obtain ⟨bs, mb, rfl⟩ := List.mem_map.mp z
      exact ⟨bs, List.mem_append_right _ mb, rfl⟩
  have s := sh_all bs mb
  have fA : Fd h.n h1 h3 := f2.trans ((f2.self.add _).trans f3)
  have shp : eF m__law_shape (aCons (eVar 3) aNil) [some (.ref 0), some (.ref wr), some (.int k), some (.ref h.n), x4, x5, x6, x7, x8, x9] h1 = .ok (.tup (bs0.map .int)) h2 := eF1 (h1 := h1) rfl e2
  have s12 : s_law_12 [some (.ref 0), some (.ref wr), some (.int k), some (.ref h.n), x4, x5, x6, x7, x8, x9] h1 = .nx [some (.ref 0), some (.ref wr), some (.int k), some (.ref h.n), some (.tup (bs.map .int)), x5, x6, x7, x8, x9] h3 := by
    refine sSet_ok (eF2 (h1 := h1) (h2 := h2.add (.lst L5)) rfl ?_ e3)
    refine lstCons shp ?_
    simp [runD, sSeq, sRet, sIf, sSet, sEx, sSub, sNil, eVar, eC, eOp, eChain, tTruth, tBl, tNotM, tAndM, tOrM, eAndM, eOrM, eNotM, eIfM, aNil, aCons, eTup, eLst, mkLst, mkTup, eCB, eF, eSl, oPart, oNone, eUn, isB, truD, isiF, tyOf, subT, leD, ltD, gtD, geD, cmpD, lenF, lenN, neD, eqD, eqB, ofOpt, MM.keep, Res.bind, Res.toS, ixD, addD, subD, modD, fdivD, intF, List.replicate, setD, negD, mulD, sizeLine, sAsg, asg, asgs, items, sPar, n_add_mix, n_add_scale, n_add_swap, n_add_set, n_add_copy, n_mix_add, n_mix_scale, n_mix_swap, n_mix_set, n_mix_copy, n_scale_add, n_scale_mix, n_scale_swap, n_scale_set, n_scale_copy, n_swap_add, n_swap_mix, n_swap_scale, n_swap_set, n_swap_copy, n_set_add, n_set_mix, n_set_scale, n_set_swap, n_set_copy, n_copy_add, n_copy_mix, n_copy_scale, n_copy_swap, n_copy_set, i_add_addset, i_mix_addset, i_scale_addset, i_swap_addset, i_set_addset, i_copy_addset, i_add_setcopy, i_mix_setcopy, i_scale_setcopy, i_swap_setcopy, i_set_setcopy, i_copy_setcopy, i_add_mixcopy, i_mix_mixcopy, i_scale_mixcopy, i_swap_mixcopy, i_set_mixcopy, i_copy_mixcopy, MH.seq, listF, tupleF, allF, MF.bools_map, ixD2, dgetD, dkey, eDct, ePs, putDct, keysD, mergeD, putD, valD, gn1, gn0, gn00, gs10, gs01, aI0, aI1, aI2, aI3, tupsD, shapes5]
  have gw3 : h3.get wr = some (.lst wordsD) := by
    rw [fA.ot wr (by omega) (by omega), a1.ot wr gn]; exact gw
  obtain ⟨e', h4, l4, I4⟩ := forL_spec (it := .rng 0 10) (t := .nm 5) (body := l_law_10) (fun _ env h' => In wr h.n bs h1 env h')
    (e0 := [some (.ref 0), some (.ref wr), some (.int k), some (.ref h.n), some (.tup (bs.map .int)), x5, x6, x7, x8, x9]) (h0 := h3)
    ⟨⟨_, _, _, _, _, _, rfl⟩, fA, gw3, by omega, by omega⟩
    (fun j env h' hj I => by
      obtain ⟨⟨z2, z5, z6, z7, z8, z9, rfl⟩, w1, w2, w3, w4⟩ := I
      obtain ⟨e2, h2, b1, b2⟩ := turn s (env := [some (.ref 0), some (.ref wr), z2, some (.ref h.n), some (.tup (bs.map .int)), some (.int (0 + j)), z6, z7, z8, z9]) ⟨⟨_, _, _, _, _, _, rfl⟩, w1, w2, w3, w4⟩
      exact ⟨.int (0 + j), _, rfl, rfl, .inl ⟨e2, h2, b1, b2⟩⟩)
    (fun _ _ _ => rfl)
  obtain ⟨⟨z2, z5, z6, z7, z8, z9, rfl⟩, f4, g4, _, _⟩ := I4
  have s13 : s_law_13 [some (.ref 0), some (.ref wr), some (.int k), some (.ref h.n), some (.tup (bs.map .int)), x5, x6, x7, x8, x9] h3 = .nx [some (.ref 0), some (.ref wr), z2, some (.ref h.n), some (.tup (bs.map .int)), z5, z6, z7, z8, z9] h4 := by
    unfold s_law_13 sFor
    have : iRng1M (aCons (eC (.int (10))) aNil) [some (.ref 0), some (.ref wr), some (.int k), some (.ref h.n), some (.tup (bs.map .int)), x5, x6, x7, x8, x9] h3 = .ok (.rng 0 10) h3 := by simp [runD, sSeq, sRet, sIf, sSet, sEx, sSub, sNil, eVar, eC, eOp, eChain, tTruth, tBl, tNotM, tAndM, tOrM, eAndM, eOrM, eNotM, eIfM, aNil, aCons, eTup, eLst, mkLst, mkTup, eCB, eF, eSl, oPart, oNone, eUn, isB, truD, isiF, tyOf, subT, leD, ltD, gtD, geD, cmpD, lenF, lenN, neD, eqD, eqB, ofOpt, MM.keep, Res.bind, Res.toS, ixD, addD, subD, modD, fdivD, intF, List.replicate, setD, negD, mulD, sizeLine, sAsg, asg, asgs, items, sPar, n_add_mix, n_add_scale, n_add_swap, n_add_set, n_add_copy, n_mix_add, n_mix_scale, n_mix_swap, n_mix_set, n_mix_copy, n_scale_add, n_scale_mix, n_scale_swap, n_scale_set, n_scale_copy, n_swap_add, n_swap_mix, n_swap_scale, n_swap_set, n_swap_copy, n_set_add, n_set_mix, n_set_scale, n_set_swap, n_set_copy, n_copy_add, n_copy_mix, n_copy_scale, n_copy_swap, n_copy_set, i_add_addset, i_mix_addset, i_scale_addset, i_swap_addset, i_set_addset, i_copy_addset, i_add_setcopy, i_mix_setcopy, i_scale_setcopy, i_swap_setcopy, i_set_setcopy, i_copy_setcopy, i_add_mixcopy, i_mix_mixcopy, i_scale_mixcopy, i_swap_mixcopy, i_set_mixcopy, i_copy_mixcopy, MH.seq, listF, tupleF, allF, MF.bools_map, ixD2, dgetD, dkey, eDct, ePs, putDct, keysD, mergeD, putD, valD, gn1, gn0, gn00, gs10, gs01, aI0, aI1, aI2, aI3, iRng1M]
    rw [this]
    exact l4
  refine ⟨_, h4, (sSeq_nx s11).trans ((sSeq_nx s12).trans s13), ⟨_, _, _, _, _, _, _, _, rfl⟩, ⟨by have := f4.le; omega, fun j lj => ?_⟩⟩
  rw [f4.ot j (by omega) (by omega)]
  exact a1.ot j lj
theorem law_true (b : Bool) (ns : List Int) (hl : ns.length ≤ 63) : ∃ h', m_law [.ref 0] (scr b ns) = .ok (.bl true) h' := by
  obtain ⟨ht, et⟩ := isBl_ok typed
  have tr : ∀ h : MH, eF c__law_typed_right aNil (some (.ref 0) :: List.replicate 9 none) h = .ok (.bl true) h := fun h => by
    have l0 : D.los 0 [] = true := rfl
    have l1 : (D.bl true).lo 0 = true := rfl
    simp only [eF, aNil, Res.bind, c__law_typed_right, loc, l0, cond_true, et, l1]
  have hs : (scr b ns).get 0 = some (if b = true then .kl (ns.map D.int) else .ro (ns.map D.int)) := MH.get_add_same MH.nil _
  have n1 : (scr b ns).n = 1 := rfl
  have s15 : s_law_15 (some (.ref 0) :: List.replicate 9 none) (scr b ns) = .nx (some (.ref 0) :: List.replicate 9 none) (scr b ns) := by
    unfold s_law_15
    refine (sIf_not ?_).trans rfl
    simp only [tNotM, tTruth, tr, Res.bind, truD]
    rfl
  have s16 : s_law_16 (some (.ref 0) :: List.replicate 9 none) (scr b ns) = .nx [some (.ref 0), some (.ref 1), none, none, none, none, none, none, none, none] ((scr b ns).add (.lst wordsD)) := by
    unfold s_law_16
    refine (sSet_ok (a := .ref 1) (h1 := (scr b ns).add (.lst wordsD)) ?_).trans rfl
    simp [runD, sSeq, sRet, sIf, sSet, sEx, sSub, sNil, eVar, eC, eOp, eChain, tTruth, tBl, tNotM, tAndM, tOrM, eAndM, eOrM, eNotM, eIfM, aNil, aCons, eTup, eLst, mkLst, mkTup, eCB, eF, eSl, oPart, oNone, eUn, isB, truD, isiF, tyOf, subT, leD, ltD, gtD, geD, cmpD, lenF, lenN, neD, eqD, eqB, ofOpt, MM.keep, Res.bind, Res.toS, ixD, addD, subD, modD, fdivD, intF, List.replicate, setD, negD, mulD, sizeLine, sAsg, asg, asgs, items, sPar, n_add_mix, n_add_scale, n_add_swap, n_add_set, n_add_copy, n_mix_add, n_mix_scale, n_mix_swap, n_mix_set, n_mix_copy, n_scale_add, n_scale_mix, n_scale_swap, n_scale_set, n_scale_copy, n_swap_add, n_swap_mix, n_swap_scale, n_swap_set, n_swap_copy, n_set_add, n_set_mix, n_set_scale, n_set_swap, n_set_copy, n_copy_add, n_copy_mix, n_copy_scale, n_copy_swap, n_copy_set, i_add_addset, i_mix_addset, i_scale_addset, i_swap_addset, i_set_addset, i_copy_addset, i_add_setcopy, i_mix_setcopy, i_scale_setcopy, i_swap_setcopy, i_set_setcopy, i_copy_setcopy, i_add_mixcopy, i_mix_mixcopy, i_scale_mixcopy, i_swap_mixcopy, i_set_mixcopy, i_copy_mixcopy, MH.seq, listF, tupleF, allF, MF.bools_map, ixD2, dgetD, dkey, eDct, ePs, putDct, keysD, mergeD, putD, valD, gn1, gn0, gn00, gs10, gs01, aI0, aI1, aI2, aI3, wordsD, n1]
  have hs1 : ((scr b ns).add (.lst wordsD)).get 0 = some (if b = true then .kl (ns.map D.int) else .ro (ns.map D.int)) := (MH.get_add_ne _ _ (by rw [n1]; decide)).trans hs
  have hg : ((scr b ns).add (.lst wordsD)).get 1 = some (.lst wordsD) := MH.get_add_same (scr b ns) _
  have hn : ((scr b ns).add (.lst wordsD)).n = 2 := rfl
  generalize (scr b ns).add (.lst wordsD) = hP at s16 hs1 hg hn
  have sq : hP.seq 0 = some (ns.map D.int) := by unfold MH.seq; rw [hs1]; cases b <;> rfl
  obtain ⟨m, hm⟩ : ∃ m : Int, m = if (if (ns.length : Int) < 3 then (ns.length : Int) else 3) > 1 then (if (ns.length : Int) < 3 then (ns.length : Int) else 3) else 1 := ⟨_, rfl⟩
  have m1 : 0 ≤ m ∧ m ≤ 3 := by
    rw [hm]
    split <;> split <;> omega
  obtain ⟨e', h', l1, _⟩ := forL_spec (it := .rng 0 m.toNat) (t := .nm 2) (body := l_law_14)
    (fun _ env h => (∃ x2 x3 x4 x5 x6 x7 x8 x9, env = [some (.ref 0), some (.ref 1), x2, x3, x4, x5, x6, x7, x8, x9]) ∧ Ext hP h)
    (e0 := [some (.ref 0), some (.ref 1), none, none, none, none, none, none, none, none]) (h0 := hP)
    ⟨⟨_, _, _, _, _, _, _, _, rfl⟩, .refl⟩
    (fun k env h hk ⟨⟨x2, x3, x4, x5, x6, x7, x8, x9, ee⟩, ex⟩ => by
      subst ee
      have hk' : k < m.toNat := hk
      have le := ex.le
      obtain ⟨e2, h2, r1, r2, r3⟩ := out (wr := 1) (k := 0 + (k : Int)) (ns := ns) (b := b) (h := h) (by omega) (by omega) ((ex.ot 0 (by omega)).trans hs1) ((ex.ot 1 (by omega)).trans hg) (by omega) (by omega)
        (x3 := x3) (x4 := x4) (x5 := x5) (x6 := x6) (x7 := x7) (x8 := x8) (x9 := x9)
      exact ⟨.int (0 + k), _, rfl, rfl, .inl ⟨_, h2, r1, r2, ex.trans r3⟩⟩)
    (fun _ _ _ => rfl)
  refine ⟨h', ?_⟩
  have bd : -(2 ^ 62) ≤ m ∧ m < 2 ^ 62 := by omega
  have s17 : s_law_17 [some (.ref 0), some (.ref 1), none, none, none, none, none, none, none, none] hP = .nx e' h' := by
    unfold s_law_17
    simp only [MI.n] at l1
    simp only [sFor, iRng1M, aCons, aNil, eCB, eC, eVar, lenF, lenN, Res.bind, ofOpt, minF, maxF, Res.toS, sq, List.getElem?_cons_zero, Option.map_some, List.length_map]
    rw [← hm, if_pos bd]
    exact l1
  exact runD_rt ((sSeq_nx s15).trans ((sSeq_nx s16).trans ((sSeq_nx s17).trans rfl)))
end K03


set_option Elab.async false
set_option linter.all false
set_option maxRecDepth 100000
set_option maxHeartbeats 4000000
namespace K03
open PySem PySem.Spec PyProof.Rows L2 MM
def topS (i : Nat) : Stmt := PySem.Challenge.pw_pauseplaces_k03_rows_done.main.body.getD i (.Pass ⟨0, 0, 0, 0⟩)
abbrev st_loses : Stmt := topS 4
abbrev nm_loses : List Str := ["shape", "row", "action"]
theorem sc_loses : FnScope nm_loses ["shape", "row"] (defScope st_loses) := ⟨rfl, rfl, rfl, by decide +kernel, rfl, by decide +kernel, by decide +kernel⟩
abbrev st__new_digit : Stmt := topS 3
abbrev nm__new_digit : List Str := ["action", "state", "word", "i"]
theorem sc__new_digit : FnScope nm__new_digit ["action", "state"] (defScope st__new_digit) := ⟨rfl, rfl, rfl, by decide +kernel, rfl, by decide +kernel, by decide +kernel⟩
abbrev st_done : Stmt := topS 2
abbrev nm_done : List Str := ["shape", "row", "state", "action", "conditions", "i", "digits", "j", "v"]
theorem sc_done : FnScope nm_done ["shape", "row", "state"] (defScope st_done) := ⟨rfl, rfl, rfl, by decide +kernel, rfl, by decide +kernel, by decide +kernel⟩
abbrev st__law_typed_right : Stmt := topS 19
abbrev nm__law_typed_right : List Str := ["rows", "shape", "row", "state", "due", "lost", "factor"]
theorem sc__law_typed_right : FnScope nm__law_typed_right [] (defScope st__law_typed_right) := ⟨rfl, rfl, rfl, by decide +kernel, rfl, by decide +kernel, by decide +kernel⟩
abbrev st__law_feed : Stmt := topS 6
abbrev nm__law_feed : List Str := ["script", "k", "cell", "digits", "state"]
theorem sc__law_feed : FnScope nm__law_feed ["script", "k"] (defScope st__law_feed) := ⟨rfl, rfl, rfl, by decide +kernel, rfl, by decide +kernel, by decide +kernel⟩
abbrev st__law_take : Stmt := topS 7
abbrev nm__law_take : List Str := ["feed", "many", "digit"]
theorem sc__law_take : FnScope nm__law_take ["feed", "many"] (defScope st__law_take) := ⟨rfl, rfl, rfl, by decide +kernel, rfl, by decide +kernel, by decide +kernel⟩
abbrev st__law_pick : Stmt := topS 8
abbrev nm__law_pick : List Str := ["feed", "some"]
theorem sc__law_pick : FnScope nm__law_pick ["feed", "some"] (defScope st__law_pick) := ⟨rfl, rfl, rfl, by decide +kernel, rfl, by decide +kernel, by decide +kernel⟩
abbrev st__law_shape : Stmt := topS 9
abbrev nm__law_shape : List Str := ["feed"]
theorem sc__law_shape : FnScope nm__law_shape ["feed"] (defScope st__law_shape) := ⟨rfl, rfl, rfl, by decide +kernel, rfl, by decide +kernel, by decide +kernel⟩
abbrev st__law_action : Stmt := topS 11
abbrev nm__law_action : List Str := ["feed", "shape", "word", "index", "base", "others", "units", "action", "j"]
theorem sc__law_action : FnScope nm__law_action ["feed", "shape", "word", "index"] (defScope st__law_action) := ⟨rfl, rfl, rfl, by decide +kernel, rfl, by decide +kernel, by decide +kernel⟩
abbrev st__law_conditions : Stmt := topS 12
abbrev nm__law_conditions : List Str := ["feed", "shape", "altered", "free", "found", "turn", "j"]
theorem sc__law_conditions : FnScope nm__law_conditions ["feed", "shape", "altered"] (defScope st__law_conditions) := ⟨rfl, rfl, rfl, by decide +kernel, rfl, by decide +kernel, by decide +kernel⟩
abbrev st__law_row : Stmt := topS 13
abbrev nm__law_row : List Str := ["feed", "shape", "words", "action", "altered"]
theorem sc__law_row : FnScope nm__law_row ["feed", "shape", "words"] (defScope st__law_row) := ⟨rfl, rfl, rfl, by decide +kernel, rfl, by decide +kernel, by decide +kernel⟩
abbrev st__law_state : Stmt := topS 10
abbrev nm__law_state : List Str := ["feed", "shape", "base"]
theorem sc__law_state : FnScope nm__law_state ["feed", "shape"] (defScope st__law_state) := ⟨rfl, rfl, rfl, by decide +kernel, rfl, by decide +kernel, by decide +kernel⟩
abbrev st__law_act : Stmt := topS 15
abbrev nm__law_act : List Str := ["shape", "row", "state", "action", "conditions", "j", "v", "digits", "i", "new"]
theorem sc__law_act : FnScope nm__law_act ["shape", "row", "state"] (defScope st__law_act) := ⟨rfl, rfl, rfl, by decide +kernel, rfl, by decide +kernel, by decide +kernel⟩
abbrev st__law_divides : Stmt := topS 17
abbrev nm__law_divides : List Str := ["base", "factor", "one"]
theorem sc__law_divides : FnScope nm__law_divides ["base", "factor"] (defScope st__law_divides) := ⟨rfl, rfl, rfl, by decide +kernel, rfl, by decide +kernel, by decide +kernel⟩
abbrev st__law_loses : Stmt := topS 18
abbrev nm__law_loses : List Str := ["shape", "row", "action"]
theorem sc__law_loses : FnScope nm__law_loses ["shape", "row"] (defScope st__law_loses) := ⟨rfl, rfl, rfl, by decide +kernel, rfl, by decide +kernel, by decide +kernel⟩
abbrev st_law : Stmt := topS 20
abbrev nm_law : List Str := ["script", "words", "k", "feed", "shape", "turn", "row", "state", "index", "shown"]
theorem sc_law : FnScope nm_law ["script"] (defScope st_law) := ⟨rfl, rfl, rfl, by decide +kernel, rfl, by decide +kernel, by decide +kernel⟩
structure TX (K : PySem.W.Frag) (mg : Str → Option Value) where
  a_loses : Addr
  d_loses : FuncData
  g_loses : mg "loses" = some (.ref a_loses)
  F_loses : Fun K "loses" "loses" st_loses a_loses d_loses
  b_loses : Binds K d_loses ["shape", "row"] []
  a__new_digit : Addr
  d__new_digit : FuncData
  g__new_digit : mg "_new_digit" = some (.ref a__new_digit)
  F__new_digit : Fun K "_new_digit" "_new_digit" st__new_digit a__new_digit d__new_digit
  b__new_digit : Binds K d__new_digit ["action", "state"] []
  a_done : Addr
  d_done : FuncData
  g_done : mg "done" = some (.ref a_done)
  F_done : Fun K "done" "done" st_done a_done d_done
  b_done : Binds K d_done ["shape", "row", "state"] []
  a__law_typed_right : Addr
  d__law_typed_right : FuncData
  g__law_typed_right : mg "_law_typed_right" = some (.ref a__law_typed_right)
  F__law_typed_right : Fun K "_law_typed_right" "_law_typed_right" st__law_typed_right a__law_typed_right d__law_typed_right
  b__law_typed_right : Binds K d__law_typed_right [] []
  a__law_feed : Addr
  d__law_feed : FuncData
  g__law_feed : mg "_law_feed" = some (.ref a__law_feed)
  F__law_feed : Fun K "_law_feed" "_law_feed" st__law_feed a__law_feed d__law_feed
  b__law_feed : Binds K d__law_feed ["script", "k"] []
  a__law_take : Addr
  d__law_take : FuncData
  g__law_take : mg "_law_take" = some (.ref a__law_take)
  F__law_take : Fun K "_law_take" "_law_take" st__law_take a__law_take d__law_take
  b__law_take : Binds K d__law_take ["feed", "many"] []
  a__law_pick : Addr
  d__law_pick : FuncData
  g__law_pick : mg "_law_pick" = some (.ref a__law_pick)
  F__law_pick : Fun K "_law_pick" "_law_pick" st__law_pick a__law_pick d__law_pick
  b__law_pick : Binds K d__law_pick ["feed", "some"] []
  a__law_shape : Addr
  d__law_shape : FuncData
  g__law_shape : mg "_law_shape" = some (.ref a__law_shape)
  F__law_shape : Fun K "_law_shape" "_law_shape" st__law_shape a__law_shape d__law_shape
  b__law_shape : Binds K d__law_shape ["feed"] []
  a__law_action : Addr
  d__law_action : FuncData
  g__law_action : mg "_law_action" = some (.ref a__law_action)
  F__law_action : Fun K "_law_action" "_law_action" st__law_action a__law_action d__law_action
  b__law_action : Binds K d__law_action ["feed", "shape", "word", "index"] []
  a__law_conditions : Addr
  d__law_conditions : FuncData
  g__law_conditions : mg "_law_conditions" = some (.ref a__law_conditions)
  F__law_conditions : Fun K "_law_conditions" "_law_conditions" st__law_conditions a__law_conditions d__law_conditions
  b__law_conditions : Binds K d__law_conditions ["feed", "shape", "altered"] []
  a__law_row : Addr
  d__law_row : FuncData
  g__law_row : mg "_law_row" = some (.ref a__law_row)
  F__law_row : Fun K "_law_row" "_law_row" st__law_row a__law_row d__law_row
  b__law_row : Binds K d__law_row ["feed", "shape", "words"] []
  a__law_state : Addr
  d__law_state : FuncData
  g__law_state : mg "_law_state" = some (.ref a__law_state)
  F__law_state : Fun K "_law_state" "_law_state" st__law_state a__law_state d__law_state
  b__law_state : Binds K d__law_state ["feed", "shape"] []
  a__law_act : Addr
  d__law_act : FuncData
  g__law_act : mg "_law_act" = some (.ref a__law_act)
  F__law_act : Fun K "_law_act" "_law_act" st__law_act a__law_act d__law_act
  b__law_act : Binds K d__law_act ["shape", "row", "state"] []
  a__law_divides : Addr
  d__law_divides : FuncData
  g__law_divides : mg "_law_divides" = some (.ref a__law_divides)
  F__law_divides : Fun K "_law_divides" "_law_divides" st__law_divides a__law_divides d__law_divides
  b__law_divides : Binds K d__law_divides ["base", "factor"] []
  a__law_loses : Addr
  d__law_loses : FuncData
  g__law_loses : mg "_law_loses" = some (.ref a__law_loses)
  F__law_loses : Fun K "_law_loses" "_law_loses" st__law_loses a__law_loses d__law_loses
  b__law_loses : Binds K d__law_loses ["shape", "row"] []
  a_law : Addr
  d_law : FuncData
  g_law : mg "law" = some (.ref a_law)
  F_law : Fun K "law" "law" st_law a_law d_law
  b_law : Binds K d_law ["script"] []
  z_abs : mg "abs" = none
  z_all : mg "all" = none
  z_int : mg "int" = none
  z_len : mg "len" = none
  z_list : mg "list" = none
  z_max : mg "max" = none
  z_min : mg "min" = none
  z_range : mg "range" = none
  z_repr : mg "repr" = none
  z_sorted : mg "sorted" = none
  z_tuple : mg "tuple" = none
  g_gcd : mg "gcd" = some (.builtin "math.gcd")
section
variable {P : Program} {w : World} {K : PySem.W.Frag} {mg : Str → Option Value} {base : Heap} {G : Nat → Option Addr}
theorem ok0_loses (T : TX K mg) : FnG P w K mg base 1 T.a_loses T.d_loses ["shape", "row"] (spM K G 2 m_loses) :=
  defM (body := b_loses) T.F_loses sc_loses 3 2 rfl rfl (fun cdv A outer s H E hr hgd => (ms_cons (ms_set (i := 2) sc_loses.nd rfl (Or.inl rfl) (me_ix (me_var 1) me_int)) (ms_cons (ms_if (mt_cmp (ok_eq hr.units) (me_ix (me_var 2) me_int) me_str) (ms_one (ms_ret (me_cmp
      ok_gt (me_callL ok_gcd rfl T.g_gcd (ma_cons (me_ix (me_var 2) me_int) (ma_cons (me_ix (me_var 0) (me_ix (me_var 2) me_int)) ma_nil))) me_int))) ms_nil) (ms_one (ms_ret
      (me_cmp (ok_in (hu65 hr)) (me_ix (me_var 2) me_int) (me_tup (ma_cons me_str (ma_cons me_str ma_nil)))))))))
theorem ok_loses (T : TX K mg) : FnG P w K mg base 1 T.a_loses T.d_loses ["shape", "row"] (spM K G 2 c_loses) := (ok0_loses T).loc
theorem ok__new_digit (T : TX K mg) : FnG P w K mg base 1 T.a__new_digit T.d__new_digit ["action", "state"] (spM K G 2 m__new_digit) :=
  defM (body := b__new_digit) T.F__new_digit sc__new_digit 4 2 rfl rfl (fun cdv A outer s H E hr hgd => (ms_cons (ms_par (i := 2) (j := 3) rfl sc__new_digit.nd rfl rfl (by decide) rfl rfl (ma_cons (me_ix (me_var 0) me_int) (ma_cons (me_ix (me_var 0) me_int) ma_nil))) (ms_cons (ms_if
      (mt_cmp (ok_eq hr.units) (me_var 2) me_str) (ms_one (ms_ret (me_op ok_add (me_ix (me_var 1) (me_var 3)) (me_ix (me_var 0) me_int)))) ms_nil) (ms_cons (ms_if (mt_cmp (ok_eq
      hr.units) (me_var 2) me_str) (ms_one (ms_ret (me_op ok_add (me_ix (me_var 1) (me_var 3)) (me_op ok_mul (me_ix (me_var 0) me_int) (me_ix (me_var 1) (me_ix (me_var 0)
      me_int)))))) ms_nil) (ms_cons (ms_if (mt_cmp (ok_eq hr.units) (me_var 2) me_str) (ms_one (ms_ret (me_op ok_mul (me_ix (me_var 1) (me_var 3)) (me_ix (me_var 0) me_int))))
      ms_nil) (ms_cons (ms_if (mt_cmp (ok_eq hr.units) (me_var 2) me_str) (ms_one (ms_ret (me_ix (me_var 0) me_int))) ms_nil) (ms_one (ms_ret (me_ix (me_var 1) (me_ix (me_var 0)
      me_int))))))))))
theorem ok0_done (T : TX K mg) : FnG P w K mg base 2 T.a_done T.d_done ["shape", "row", "state"] (spM K G 3 m_done) :=
  defM (body := b_done) T.F_done sc_done 9 3 rfl rfl (fun cdv A outer s H E hr hgd => (ms_cons (ms_asg (me_var 1) (mg_tp rfl (mgs_cons (mg_nm 3 sc_done.nd rfl (Or.inl rfl)) (mgs_cons (mg_nm 4 sc_done.nd rfl (Or.inl rfl)) mgs_nil)) rfl)) (ms_cons (ms_if (mt_not
      (mt_truth (me_callB (ok_all rfl) rfl T.z_all bt_all (ma_cons (me_lc (own := [("j", 7), ("v", 8)]) rfl sc_done.nd (mi_seq (me_var 4)) (blkOk_by (own := [("j", 7), ("v", 8)])
      (N := nm_done) (sc := defScope st_done) (by decide +kernel)) (by decide) (fun _ _ _ _ _ => (mg_tp rfl (mgs_cons (mg_nm 7 sc_done.nd rfl (Or.inl rfl)) (mgs_cons (mg_nm 8
      sc_done.nd rfl (Or.inl rfl)) mgs_nil)) rfl)) (fun _ _ _ _ _ => mts_nil) (fun _ _ _ _ _ => (me_cmp (ok_eq hr.units) (me_ix (me_var 2) (me_var 7)) (me_var 8)))) ma_nil))))
      (ms_one (ms_ret (me_var 2))) ms_nil) (ms_cons (ms_set (i := 5) sc_done.nd rfl (Or.inl rfl) (me_ix (me_var 3) me_int)) (ms_cons (ms_set (i := 6) sc_done.nd rfl (Or.inl rfl)
      (me_callTy ok_list rfl T.z_list bt_list (ma_cons (me_var 2) ma_nil))) (ms_cons (ms_sub (me_op ok_mod (me_call (ok__new_digit T) hgd (takes_of rfl rfl rfl rfl) (hr.mono (by
      decide)) rfl T.g__new_digit T.F__new_digit.kp T.b__new_digit rfl (aCons_len (aCons_len aNil_len)) (ma_cons (me_var 3) (ma_cons (me_var 2) ma_nil))) (me_ix (me_var 0) (me_var
      5))) (me_var 6) (me_var 5)) (ms_cons (ms_if (mt_cmp (ok_eq hr.units) (me_ix (me_var 3) me_int) me_str) (ms_one (ms_sub (me_ix (me_var 2) (me_var 5)) (me_var 6) (me_ix (me_var
      3) me_int))) ms_nil) (ms_one (ms_ret (me_callTy ok_tuple rfl T.z_tuple bt_tuple (ma_cons (me_var 6) ma_nil)))))))))))
theorem ok_done (T : TX K mg) : FnG P w K mg base 2 T.a_done T.d_done ["shape", "row", "state"] (spM K G 3 c_done) := (ok0_done T).loc
theorem ok0__law_typed_right (T : TX K mg) : FnG P w K mg base 3 T.a__law_typed_right T.d__law_typed_right [] (spM K G 0 m__law_typed_right) :=
  defM (body := b__law_typed_right) T.F__law_typed_right sc__law_typed_right 7 0 rfl rfl (fun cdv A outer s H E hr hgd => (ms_cons (ms_set (i := 0) sc__law_typed_right.nd rfl (Or.inl rfl) (me_lst (ma_cons (me_tup (ma_cons (me_tup (ma_cons me_int (ma_cons me_int ma_nil))) (ma_cons (me_tup (ma_cons
      (me_tup (ma_cons me_str (ma_cons me_int (ma_cons me_int (ma_cons me_int ma_nil))))) (ma_cons (me_tup ma_nil) ma_nil))) (ma_cons (me_tup (ma_cons me_int (ma_cons me_int
      ma_nil))) (ma_cons (me_tup (ma_cons me_int (ma_cons me_int ma_nil))) ma_nil))))) (ma_cons (me_tup (ma_cons (me_tup (ma_cons me_int (ma_cons me_int ma_nil))) (ma_cons (me_tup
      (ma_cons (me_tup (ma_cons me_str (ma_cons me_int (ma_cons me_int (ma_cons me_int ma_nil))))) (ma_cons (me_tup (ma_cons (me_tup (ma_cons me_int (ma_cons me_int ma_nil)))
      ma_nil)) ma_nil))) (ma_cons (me_tup (ma_cons me_int (ma_cons me_int ma_nil))) (ma_cons (me_tup (ma_cons me_int (ma_cons me_int ma_nil))) ma_nil))))) ma_nil)))) (ms_cons
      (ms_expr (me_append (fun _ _ _ q => app_rd q) (pe_bm PySem.F.plainAttrs_list PySem.F.slot_list_append PySem.F.type_list_append mt_append (me_var 0) (ma_cons (me_tup (ma_cons
      (me_tup (ma_cons me_int (ma_cons me_int ma_nil))) (ma_cons (me_tup (ma_cons (me_tup (ma_cons me_str (ma_cons me_int (ma_cons me_int (ma_cons me_int ma_nil))))) (ma_cons
      (me_tup (ma_cons (me_tup (ma_cons me_int (ma_cons me_int ma_nil))) ma_nil)) ma_nil))) (ma_cons (me_tup (ma_cons me_int (ma_cons me_int ma_nil))) (ma_cons (me_tup (ma_cons
      me_int (ma_cons me_int ma_nil))) ma_nil))))) ma_nil)))) (ms_cons (ms_expr (me_append (fun _ _ _ q => app_rd q) (pe_bm PySem.F.plainAttrs_list PySem.F.slot_list_append
      PySem.F.type_list_append mt_append (me_var 0) (ma_cons (me_tup (ma_cons (me_tup (ma_cons me_int (ma_cons me_int ma_nil))) (ma_cons (me_tup (ma_cons (me_tup (ma_cons me_str
      (ma_cons me_int (ma_cons me_int (ma_cons me_int ma_nil))))) (ma_cons (me_tup ma_nil) ma_nil))) (ma_cons (me_tup (ma_cons me_int (ma_cons me_int ma_nil))) (ma_cons (me_tup
      (ma_cons me_int (ma_cons me_int ma_nil))) ma_nil))))) ma_nil)))) (ms_cons (ms_expr (me_append (fun _ _ _ q => app_rd q) (pe_bm PySem.F.plainAttrs_list
      PySem.F.slot_list_append PySem.F.type_list_append mt_append (me_var 0) (ma_cons (me_tup (ma_cons (me_tup (ma_cons me_int (ma_cons me_int ma_nil))) (ma_cons (me_tup (ma_cons
      (me_tup (ma_cons me_str (ma_cons me_int (ma_cons me_int ma_nil)))) (ma_cons (me_tup ma_nil) ma_nil))) (ma_cons (me_tup (ma_cons me_int (ma_cons me_int ma_nil))) (ma_cons
      (me_tup (ma_cons me_int (ma_cons me_int ma_nil))) ma_nil))))) ma_nil)))) (ms_cons (ms_expr (me_append (fun _ _ _ q => app_rd q) (pe_bm PySem.F.plainAttrs_list
      PySem.F.slot_list_append PySem.F.type_list_append mt_append (me_var 0) (ma_cons (me_tup (ma_cons (me_tup (ma_cons me_int (ma_cons me_int (ma_cons me_int ma_nil)))) (ma_cons
      (me_tup (ma_cons (me_tup (ma_cons me_str (ma_cons me_int (ma_cons me_int ma_nil)))) (ma_cons (me_tup (ma_cons (me_tup (ma_cons me_int (ma_cons me_int ma_nil))) ma_nil))
      ma_nil))) (ma_cons (me_tup (ma_cons me_int (ma_cons me_int (ma_cons me_int ma_nil)))) (ma_cons (me_tup (ma_cons me_int (ma_cons me_int (ma_cons me_int ma_nil)))) ma_nil)))))
      ma_nil)))) (ms_cons (ms_expr (me_append (fun _ _ _ q => app_rd q) (pe_bm PySem.F.plainAttrs_list PySem.F.slot_list_append PySem.F.type_list_append mt_append (me_var 0)
      (ma_cons (me_tup (ma_cons (me_tup (ma_cons me_int ma_nil)) (ma_cons (me_tup (ma_cons (me_tup (ma_cons me_str (ma_cons me_int (ma_cons me_int ma_nil)))) (ma_cons (me_tup
      ma_nil) ma_nil))) (ma_cons (me_tup (ma_cons me_int ma_nil)) (ma_cons (me_tup (ma_cons me_int ma_nil)) ma_nil))))) ma_nil)))) (ms_cons (ms_expr (me_append (fun _ _ _ q =>
      app_rd q) (pe_bm PySem.F.plainAttrs_list PySem.F.slot_list_append PySem.F.type_list_append mt_append (me_var 0) (ma_cons (me_tup (ma_cons (me_tup (ma_cons me_int ma_nil))
      (ma_cons (me_tup (ma_cons (me_tup (ma_cons me_str (ma_cons me_int (ma_cons me_int ma_nil)))) (ma_cons (me_tup ma_nil) ma_nil))) (ma_cons (me_tup (ma_cons me_int ma_nil))
      (ma_cons (me_tup (ma_cons me_int ma_nil)) ma_nil))))) ma_nil)))) (ms_cons (ms_expr (me_append (fun _ _ _ q => app_rd q) (pe_bm PySem.F.plainAttrs_list
      PySem.F.slot_list_append PySem.F.type_list_append mt_append (me_var 0) (ma_cons (me_tup (ma_cons (me_tup (ma_cons me_int (ma_cons me_int (ma_cons me_int ma_nil)))) (ma_cons
      (me_tup (ma_cons (me_tup (ma_cons me_str (ma_cons me_int (ma_cons me_int ma_nil)))) (ma_cons (me_tup (ma_cons (me_tup (ma_cons me_int (ma_cons me_int ma_nil))) (ma_cons
      (me_tup (ma_cons me_int (ma_cons me_int ma_nil))) ma_nil))) ma_nil))) (ma_cons (me_tup (ma_cons me_int (ma_cons me_int (ma_cons me_int ma_nil)))) (ma_cons (me_tup (ma_cons
      me_int (ma_cons me_int (ma_cons me_int ma_nil)))) ma_nil))))) ma_nil)))) (ms_cons (ms_expr (me_append (fun _ _ _ q => app_rd q) (pe_bm PySem.F.plainAttrs_list
      PySem.F.slot_list_append PySem.F.type_list_append mt_append (me_var 0) (ma_cons (me_tup (ma_cons (me_tup (ma_cons me_int (ma_cons me_int (ma_cons me_int ma_nil)))) (ma_cons
      (me_tup (ma_cons (me_tup (ma_cons me_str (ma_cons me_int (ma_cons me_int ma_nil)))) (ma_cons (me_tup (ma_cons (me_tup (ma_cons me_int (ma_cons me_int ma_nil))) (ma_cons
      (me_tup (ma_cons me_int (ma_cons me_int ma_nil))) ma_nil))) ma_nil))) (ma_cons (me_tup (ma_cons me_int (ma_cons me_int (ma_cons me_int ma_nil)))) (ma_cons (me_tup (ma_cons
      me_int (ma_cons me_int (ma_cons me_int ma_nil)))) ma_nil))))) ma_nil)))) (ms_cons (ms_for (passes_of rfl) rfl (mi_seq (me_var 0)) (mg_tp rfl (mgs_cons (mg_nm 1
      sc__law_typed_right.nd rfl (Or.inl rfl)) (mgs_cons (mg_nm 2 sc__law_typed_right.nd rfl (Or.inl rfl)) (mgs_cons (mg_nm 3 sc__law_typed_right.nd rfl (Or.inl rfl)) (mgs_cons
      (mg_nm 4 sc__law_typed_right.nd rfl (Or.inl rfl)) mgs_nil)))) rfl) (ms_one (ms_if (mt_cmp (ok_ne hr.units) (me_callB (ok_repr hgd (hu66 hr)) rfl T.z_repr bt_repr (ma_cons
      (me_call (ok_done T) hgd (takes_of rfl rfl rfl rfl) (hr.mono (by decide)) rfl T.g_done T.F_done.kp T.b_done rfl (aCons_len (aCons_len (aCons_len aNil_len))) (ma_cons (me_var
      1) (ma_cons (me_var 2) (ma_cons (me_var 3) ma_nil)))) ma_nil)) (me_callB (ok_repr hgd (hu66 hr)) rfl T.z_repr bt_repr (ma_cons (me_var 4) ma_nil))) (ms_one (ms_ret me_bl))
      ms_nil))) (ms_cons (ms_setLc (own := [("factor", 6)]) (i := 5) rfl sc__law_typed_right.nd rfl rfl (sw_true rfl rfl rfl (by decide +kernel)) (mi_rng1 rfl T.z_range (ma_cons
      me_int ma_nil)) (blkOk_by (own := [("factor", 6)]) (N := nm__law_typed_right) (sc := defScope st__law_typed_right) (by decide +kernel)) (by decide) (fun _ _ _ _ _ => (mg_nm 6
      sc__law_typed_right.nd rfl (Or.inl rfl))) (fun _ _ _ _ _ => mts_nil) (fun _ _ _ _ _ => (me_tup (ma_cons (me_tup (ma_cons me_str (ma_cons me_int (ma_cons (me_var 6) ma_nil))))
      (ma_cons (me_tup ma_nil) ma_nil))))) (ms_one (ms_ret (me_cmp (ok_eq hr.units) (me_lc (own := [("row", 2)]) rfl sc__law_typed_right.nd (mi_seq (me_var 5)) (blkOk_by (own :=
      [("row", 2)]) (N := nm__law_typed_right) (sc := defScope st__law_typed_right) (by decide +kernel)) (by decide) (fun _ _ _ _ _ => (mg_nm 2 sc__law_typed_right.nd rfl (Or.inl
      rfl))) (fun _ _ _ _ _ => mts_nil) (fun _ _ _ _ _ => (me_call (ok_loses T) hgd takes0 (hr.mono (by decide)) rfl T.g_loses T.F_loses.kp T.b_loses rfl (aCons_len (aCons_len
      aNil_len)) (ma_cons (me_tup (ma_cons me_int ma_nil)) (ma_cons (me_var 2) ma_nil))))) (me_lc (own := [("factor", 6)]) rfl sc__law_typed_right.nd (mi_rng1 rfl T.z_range
      (ma_cons me_int ma_nil)) (blkOk_by (own := [("factor", 6)]) (N := nm__law_typed_right) (sc := defScope st__law_typed_right) (by decide +kernel)) (by decide) (fun _ _ _ _ _ =>
      (mg_nm 6 sc__law_typed_right.nd rfl (Or.inl rfl))) (fun _ _ _ _ _ => mts_nil) (fun _ _ _ _ _ => (me_cmp (ok_notIn (hu65 hr)) (me_var 6) (me_tup (ma_cons me_int (ma_cons
      me_int (ma_cons me_int (ma_cons me_int ma_nil)))))))))))))))))))))))
theorem ok__law_typed_right (T : TX K mg) : FnG P w K mg base 3 T.a__law_typed_right T.d__law_typed_right [] (spM K G 0 c__law_typed_right) := (ok0__law_typed_right T).loc
theorem ok__law_feed (T : TX K mg) : FnG P w K mg base 1 T.a__law_feed T.d__law_feed ["script", "k"] (spM K G 2 m__law_feed) :=
  defM (body := b__law_feed) T.F__law_feed sc__law_feed 5 2 rfl rfl (fun cdv A outer s H E hr hgd => (ms_cons (ms_set (i := 2) sc__law_feed.nd rfl (Or.inl rfl) (me_if (mt_cmp ok_lt (me_var 1) (me_callB ok_len rfl T.z_len bt_len (ma_cons (me_var 0) ma_nil))) (me_ix (me_var 0)
      (me_var 1)) (me_op ok_add (me_op ok_mul me_int (me_var 1)) me_int))) (ms_cons (ms_set (i := 3) sc__law_feed.nd rfl (Or.inl rfl) (me_callB (ok_max rfl) rfl T.z_max bt_max
      (ma_cons me_int (ma_cons (me_op ok_sub (me_callB ok_abs rfl T.z_abs bt_abs (ma_cons (me_var 2) ma_nil)) (me_op ok_pow me_int me_int)) ma_nil)))) (ms_cons (ms_set (i := 4)
      sc__law_feed.nd rfl (Or.inl rfl) (me_op ok_mod (me_callTy ok_int rfl T.z_int bt_int (ma_cons (me_op ok_add (me_op ok_add (me_op ok_mul (me_var 2) me_int) (me_op ok_mul me_int
      (me_var 1))) me_int) ma_nil)) me_int)) (ms_one (ms_ret (me_lst (ma_cons (me_var 3) (ma_cons (me_var 4) ma_nil)))))))))
theorem ok__law_take (T : TX K mg) : FnG P w K mg base 1 T.a__law_take T.d__law_take ["feed", "many"] (spM K G 2 m__law_take) :=
  defM (body := b__law_take) T.F__law_take sc__law_take 3 2 rfl rfl (fun cdv A outer s H E hr hgd => (ms_cons (ms_if (mt_cmp ok_gt (me_ix (me_var 0) me_int) me_int) (ms_cons (ms_set (i := 2) sc__law_take.nd rfl (Or.inl rfl) (me_op ok_mod (me_callTy ok_int rfl T.z_int bt_int
      (ma_cons (me_ix (me_var 0) me_int) ma_nil)) (me_var 1))) (ms_cons (ms_sub (me_op ok_fdiv (me_ix (me_var 0) me_int) (me_var 1)) (me_var 0) me_int) (ms_one (ms_ret (me_var
      2))))) ms_nil) (ms_cons (ms_sub (me_op ok_mod (me_callTy ok_int rfl T.z_int bt_int (ma_cons (me_op ok_add (me_op ok_mul (me_ix (me_var 0) me_int) me_int) me_int) ma_nil))
      me_int) (me_var 0) me_int) (ms_one (ms_ret (me_op ok_mod (me_callTy ok_int rfl T.z_int bt_int (ma_cons (me_op ok_fdiv (me_ix (me_var 0) me_int) me_int) ma_nil)) (me_var
      1)))))))
theorem ok__law_pick (T : TX K mg) : FnG P w K mg base 2 T.a__law_pick T.d__law_pick ["feed", "some"] (spM K G 2 m__law_pick) :=
  defM (body := b__law_pick) T.F__law_pick sc__law_pick 2 2 rfl rfl (fun cdv A outer s H E hr hgd => (ms_one (ms_ret (me_ix (me_var 1) (me_call (ok__law_take T) hgd (takes_of rfl rfl rfl rfl) (hr.mono (by decide)) rfl T.g__law_take T.F__law_take.kp T.b__law_take rfl (aCons_len
      (aCons_len aNil_len)) (ma_cons (me_var 0) (ma_cons (me_callB ok_len rfl T.z_len bt_len (ma_cons (me_var 1) ma_nil)) ma_nil)))))))
theorem ok__law_shape (T : TX K mg) : FnG P w K mg base 3 T.a__law_shape T.d__law_shape ["feed"] (spM K G 1 m__law_shape) :=
  defM (body := b__law_shape) T.F__law_shape sc__law_shape 1 1 rfl rfl (fun cdv A outer s H E hr hgd => (ms_one (ms_ret (me_call (ok__law_pick T) hgd (takes_of rfl rfl rfl rfl) (hr.mono (by decide)) rfl T.g__law_pick T.F__law_pick.kp T.b__law_pick rfl (aCons_len (aCons_len aNil_len))
      (ma_cons (me_var 0) (ma_cons (me_lst (ma_cons (me_tup (ma_cons me_int (ma_cons me_int ma_nil))) (ma_cons (me_tup (ma_cons me_int ma_nil)) (ma_cons (me_tup (ma_cons me_int
      (ma_cons me_int ma_nil))) (ma_cons (me_tup (ma_cons me_int (ma_cons me_int (ma_cons me_int ma_nil)))) (ma_cons (me_tup (ma_cons me_int (ma_cons me_int ma_nil))) (ma_cons
      (me_tup (ma_cons me_int (ma_cons me_int ma_nil))) (ma_cons (me_tup (ma_cons me_int (ma_cons me_int ma_nil))) (ma_cons (me_tup (ma_cons me_int (ma_cons me_int (ma_cons me_int
      ma_nil)))) (ma_cons (me_tup (ma_cons me_int ma_nil)) (ma_cons (me_tup (ma_cons me_int (ma_cons me_int (ma_cons me_int (ma_cons me_int ma_nil))))) ma_nil)))))))))))
      ma_nil))))))
theorem ok__law_action (T : TX K mg) : FnG P w K mg base 3 T.a__law_action T.d__law_action ["feed", "shape", "word", "index"] (spM K G 4 m__law_action) :=
  defM (body := b__law_action) T.F__law_action sc__law_action 9 4 rfl rfl (fun cdv A outer s H E hr hgd => (ms_cons (ms_asg (me_tup (ma_cons (me_ix (me_var 1) (me_var 3)) (ma_cons (me_lc (own := [("j", 8)]) rfl sc__law_action.nd (mi_rng1 rfl T.z_range (ma_cons (me_callB ok_len rfl
      T.z_len bt_len (ma_cons (me_var 1) ma_nil)) ma_nil)) (blkOk_by (own := [("j", 8)]) (N := nm__law_action) (sc := defScope st__law_action) (by decide +kernel)) (by decide) (fun
      _ _ _ _ _ => (mg_nm 8 sc__law_action.nd rfl (Or.inl rfl))) (fun _ _ _ _ _ => (mts_one (mt_cmp (ok_ne hr.units) (me_var 8) (me_var 3)))) (fun _ _ _ _ _ => (me_var 8)))
      ma_nil))) (mg_tp rfl (mgs_cons (mg_nm 4 sc__law_action.nd rfl (Or.inr rfl)) (mgs_cons (mg_nm 5 sc__law_action.nd rfl (Or.inl rfl)) mgs_nil)) rfl)) (ms_cons (ms_if (mt_cmp
      (ok_eq hr.units) (me_var 2) me_str) (ms_cons (ms_set (i := 6) sc__law_action.nd rfl (Or.inl rfl) (me_dct (ps := [((eC (.int (3))), (eLst (aCons (eC (.int (1))) (aCons (eC
      (.int (2))) aNil)))), ((eC (.int (4))), (eLst (aCons (eC (.int (1))) (aCons (eC (.int (3))) aNil)))), ((eC (.int (5))), (eLst (aCons (eC (.int (2))) (aCons (eC (.int (3)))
      (aCons (eC (.int (4))) aNil)))))]) (pps_cons me_int (me_lst (ma_cons me_int (ma_cons me_int ma_nil))) (pps_cons me_int (me_lst (ma_cons me_int (ma_cons me_int ma_nil)))
      (pps_cons me_int (me_lst (ma_cons me_int (ma_cons me_int (ma_cons me_int ma_nil)))) pps_nil))) rfl rfl (by simp) (by decide))) (ms_one (ms_ret (me_tup (ma_cons (me_var 2)
      (ma_cons (me_var 3) (ma_cons (me_call (ok__law_pick T) hgd (takes_of rfl rfl rfl rfl) (hr.mono (by decide)) rfl T.g__law_pick T.F__law_pick.kp T.b__law_pick rfl (aCons_len
      (aCons_len aNil_len)) (ma_cons (me_var 0) (ma_cons (me_get2 (hu1 hr) (me_var 6) (me_var 4) (me_lst (ma_cons me_int ma_nil)) ⟨rfl, rfl, rfl, rfl⟩) ma_nil))) ma_nil)))))))
      ms_nil) (ms_cons (ms_if (mt_cmp (ok_eq hr.units) (me_var 2) me_str) (ms_cons (ms_setLc (own := [("j", 8)]) (i := 5) rfl sc__law_action.nd rfl rfl (sw_true rfl rfl rfl (by
      decide +kernel)) (mi_seq (me_var 5)) (blkOk_by (own := [("j", 8)]) (N := nm__law_action) (sc := defScope st__law_action) (by decide +kernel)) (by decide) (fun _ _ _ _ _ =>
      (mg_nm 8 sc__law_action.nd rfl (Or.inl rfl))) (fun _ _ _ _ _ => (mts_one (mt_cmp (ok_eq hr.units) (me_ix (me_var 1) (me_var 8)) (me_var 4)))) (fun _ _ _ _ _ => (me_var 8)))
      (ms_one (ms_ret (me_if (mt_cmp (ok_ne hr.units) (me_var 5) (me_lst ma_nil)) (me_tup (ma_cons (me_var 2) (ma_cons (me_var 3) (ma_cons (me_call (ok__law_pick T) hgd (takes_of
      rfl rfl rfl rfl) (hr.mono (by decide)) rfl T.g__law_pick T.F__law_pick.kp T.b__law_pick rfl (aCons_len (aCons_len aNil_len)) (ma_cons (me_var 0) (ma_cons (me_var 5) ma_nil)))
      ma_nil)))) (me_tup (ma_cons me_str (ma_cons (me_var 3) (ma_cons me_int ma_nil)))))))) ms_nil) (ms_cons (ms_if (PW.pt (mw_and (mt_cmp (ok_in (hu65 hr)) (me_var 2) (me_tup
      (ma_cons me_str (ma_cons me_str ma_nil)))) (mw_and1 (mt_cmp (ok_ne hr.units) (me_var 5) (me_lst ma_nil))))) (ms_cons (ms_set (i := 7) sc__law_action.nd rfl (Or.inl rfl)
      (me_tup (ma_cons (me_var 2) (ma_cons (me_var 3) (ma_cons (me_call (ok__law_pick T) hgd (takes_of rfl rfl rfl rfl) (hr.mono (by decide)) rfl T.g__law_pick T.F__law_pick.kp
      T.b__law_pick rfl (aCons_len (aCons_len aNil_len)) (ma_cons (me_var 0) (ma_cons (me_var 5) ma_nil))) ma_nil))))) (ms_one (ms_ret (me_if (mt_cmp (ok_eq hr.units) (me_var 2)
      me_str) (me_op ok_add (me_var 7) (me_tup (ma_cons (me_op ok_add me_int (me_call (ok__law_take T) hgd (takes_of rfl rfl rfl rfl) (hr.mono (by decide)) rfl T.g__law_take
      T.F__law_take.kp T.b__law_take rfl (aCons_len (aCons_len aNil_len)) (ma_cons (me_var 0) (ma_cons (me_op ok_sub (me_var 4) me_int) ma_nil)))) ma_nil))) (me_var 7))))) ms_nil)
      (ms_cons (ms_if (mt_cmp (ok_in (hu65 hr)) (me_var 2) (me_tup (ma_cons me_str (ma_cons me_str ma_nil)))) (ms_one (ms_set (i := 2) sc__law_action.nd rfl (Or.inl rfl) (me_if
      (mt_cmp (ok_eq hr.units) (me_var 2) me_str) me_str me_str))) ms_nil) (ms_one (ms_ret (me_tup (ma_cons (me_var 2) (ma_cons (me_var 3) (ma_cons (me_call (ok__law_take T) hgd
      (takes_of rfl rfl rfl rfl) (hr.mono (by decide)) rfl T.g__law_take T.F__law_take.kp T.b__law_take rfl (aCons_len (aCons_len aNil_len)) (ma_cons (me_var 0) (ma_cons (me_var 4)
      ma_nil))) ma_nil))))))))))))
theorem ok__law_conditions (T : TX K mg) : FnG P w K mg base 3 T.a__law_conditions T.d__law_conditions ["feed", "shape", "altered"] (spM K G 3 m__law_conditions) :=
  defM (body := b__law_conditions) T.F__law_conditions sc__law_conditions 7 3 rfl rfl (fun cdv A outer s H E hr hgd => (ms_cons (ms_par (i := 3) (j := 4) rfl sc__law_conditions.nd rfl rfl (by decide) rfl rfl (ma_cons (me_lc (own := [("j", 6)]) rfl sc__law_conditions.nd (mi_rng1 rfl T.z_range
      (ma_cons (me_callB ok_len rfl T.z_len bt_len (ma_cons (me_var 1) ma_nil)) ma_nil)) (blkOk_by (own := [("j", 6)]) (N := nm__law_conditions) (sc := defScope st__law_conditions)
      (by decide +kernel)) (by decide) (fun _ _ _ _ _ => (mg_nm 6 sc__law_conditions.nd rfl (Or.inl rfl))) (fun _ _ _ _ _ => (mts_one (mt_cmp (ok_notIn (hu65 hr)) (me_var 6)
      (me_var 2)))) (fun _ _ _ _ _ => (me_var 6))) (ma_cons (me_lst ma_nil) ma_nil))) (ms_cons (ms_for (passes_of rfl) rfl (mi_rng1 rfl T.z_range (ma_cons (me_call (ok__law_pick T)
      hgd (takes_of rfl rfl rfl rfl) (hr.mono (by decide)) rfl T.g__law_pick T.F__law_pick.kp T.b__law_pick rfl (aCons_len (aCons_len aNil_len)) (ma_cons (me_var 0) (ma_cons
      (me_lst (ma_cons me_int (ma_cons me_int (ma_cons me_int (ma_cons me_int (ma_cons me_int (ma_cons (me_callB ok_len rfl T.z_len bt_len (ma_cons (me_var 1) ma_nil))
      ma_nil))))))) ma_nil))) ma_nil)) (mg_nm 5 sc__law_conditions.nd rfl (Or.inl rfl)) (ms_one (ms_if (mt_cmp (ok_ne hr.units) (me_var 3) (me_lst ma_nil)) (ms_cons (ms_set (i :=
      6) sc__law_conditions.nd rfl (Or.inl rfl) (me_imp (fun _ _ _ q => pop_rd q) (pe_bm PySem.F.plainAttrs_list PySem.F.slot_list_pop PySem.F.type_list_pop mt_popAt (me_var 3)
      (ma_cons (me_call (ok__law_take T) hgd (takes_of rfl rfl rfl rfl) (hr.mono (by decide)) rfl T.g__law_take T.F__law_take.kp T.b__law_take rfl (aCons_len (aCons_len aNil_len))
      (ma_cons (me_var 0) (ma_cons (me_callB ok_len rfl T.z_len bt_len (ma_cons (me_var 3) ma_nil)) ma_nil))) ma_nil)))) (ms_one (ms_expr (me_append (fun _ _ _ q => app_rd q)
      (pe_bm PySem.F.plainAttrs_list PySem.F.slot_list_append PySem.F.type_list_append mt_append (me_var 4) (ma_cons (me_tup (ma_cons (me_var 6) (ma_cons (me_call (ok__law_take T)
      hgd (takes_of rfl rfl rfl rfl) (hr.mono (by decide)) rfl T.g__law_take T.F__law_take.kp T.b__law_take rfl (aCons_len (aCons_len aNil_len)) (ma_cons (me_var 0) (ma_cons (me_ix
      (me_var 1) (me_var 6)) ma_nil))) ma_nil))) ma_nil)))))) ms_nil))) (ms_one (ms_ret (me_callTy ok_tuple rfl T.z_tuple bt_tuple (ma_cons (me_callB (ok_sorted (hu70 hr)) rfl
      T.z_sorted bt_sorted (ma_cons (me_var 4) ma_nil)) ma_nil)))))))
theorem ok__law_row (T : TX K mg) : FnG P w K mg base 4 T.a__law_row T.d__law_row ["feed", "shape", "words"] (spM K G 3 m__law_row) :=
  defM (body := b__law_row) T.F__law_row sc__law_row 5 3 rfl rfl (fun cdv A outer s H E hr hgd => (ms_cons (ms_set (i := 3) sc__law_row.nd rfl (Or.inl rfl) (me_call (ok__law_action T) hgd (takes_of rfl rfl rfl rfl) (hr.mono (by decide)) rfl T.g__law_action T.F__law_action.kp
      T.b__law_action rfl (aCons_len (aCons_len (aCons_len (aCons_len aNil_len)))) (ma_cons (me_var 0) (ma_cons (me_var 1) (ma_cons (me_call (ok__law_pick T) hgd (takes_of rfl rfl
      rfl rfl) (hr.mono (by decide)) rfl T.g__law_pick T.F__law_pick.kp T.b__law_pick rfl (aCons_len (aCons_len aNil_len)) (ma_cons (me_var 0) (ma_cons (me_var 2) ma_nil)))
      (ma_cons (me_call (ok__law_take T) hgd (takes_of rfl rfl rfl rfl) (hr.mono (by decide)) rfl T.g__law_take T.F__law_take.kp T.b__law_take rfl (aCons_len (aCons_len aNil_len))
      (ma_cons (me_var 0) (ma_cons (me_callB ok_len rfl T.z_len bt_len (ma_cons (me_var 1) ma_nil)) ma_nil))) ma_nil)))))) (ms_cons (ms_set (i := 4) sc__law_row.nd rfl (Or.inl rfl)
      (me_if (mt_cmp (ok_eq hr.units) (me_ix (me_var 3) me_int) me_str) (me_lst (ma_cons (me_ix (me_var 3) me_int) (ma_cons (me_ix (me_var 3) me_int) ma_nil))) (me_lst (ma_cons
      (me_ix (me_var 3) me_int) ma_nil)))) (ms_one (ms_ret (me_tup (ma_cons (me_var 3) (ma_cons (me_call (ok__law_conditions T) hgd (takes_of rfl rfl rfl rfl) (hr.mono (by decide))
      rfl T.g__law_conditions T.F__law_conditions.kp T.b__law_conditions rfl (aCons_len (aCons_len (aCons_len aNil_len))) (ma_cons (me_var 0) (ma_cons (me_var 1) (ma_cons (me_var
      4) ma_nil)))) ma_nil))))))))
theorem ok__law_state (T : TX K mg) : FnG P w K mg base 2 T.a__law_state T.d__law_state ["feed", "shape"] (spM K G 2 m__law_state) :=
  defM (body := b__law_state) T.F__law_state sc__law_state 3 2 rfl rfl (fun cdv A outer s H E hr hgd => (ms_one (ms_ret (me_callTy ok_tuple rfl T.z_tuple bt_tuple (ma_cons (me_lc (own := [("base", 2)]) rfl sc__law_state.nd (mi_seq (me_var 1)) (blkOk_by (own := [("base", 2)]) (N :=
      nm__law_state) (sc := defScope st__law_state) (by decide +kernel)) (by decide) (fun _ _ _ _ _ => (mg_nm 2 sc__law_state.nd rfl (Or.inl rfl))) (fun _ _ _ _ _ => mts_nil) (fun
      _ _ _ _ _ => (me_call (ok__law_take T) hgd takes0 (hr.mono (by decide)) rfl T.g__law_take T.F__law_take.kp T.b__law_take rfl (aCons_len (aCons_len aNil_len)) (ma_cons (me_var
      0) (ma_cons (me_var 2) ma_nil))))) ma_nil)))))
theorem ok0__law_act (T : TX K mg) : FnG P w K mg base 1 T.a__law_act T.d__law_act ["shape", "row", "state"] (spM K G 3 m__law_act) :=
  defM (body := b__law_act) T.F__law_act sc__law_act 10 3 rfl rfl (fun cdv A outer s H E hr hgd => (ms_cons (ms_asg (me_var 1) (mg_tp rfl (mgs_cons (mg_nm 3 sc__law_act.nd rfl (Or.inl rfl)) (mgs_cons (mg_nm 4 sc__law_act.nd rfl (Or.inl rfl)) mgs_nil)) rfl)) (ms_cons (ms_for
      (passes_of rfl) rfl (mi_seq (me_var 4)) (mg_tp rfl (mgs_cons (mg_nm 5 sc__law_act.nd rfl (Or.inl rfl)) (mgs_cons (mg_nm 6 sc__law_act.nd rfl (Or.inl rfl)) mgs_nil)) rfl)
      (ms_one (ms_if (mt_cmp (ok_ne hr.units) (me_ix (me_var 2) (me_var 5)) (me_var 6)) (ms_one (ms_ret (me_var 2))) ms_nil))) (ms_cons (ms_par (i := 7) (j := 8) rfl sc__law_act.nd
      rfl rfl (by decide) rfl rfl (ma_cons (me_callTy ok_list rfl T.z_list bt_list (ma_cons (me_var 2) ma_nil)) (ma_cons (me_ix (me_var 3) me_int) ma_nil))) (ms_cons (ms_if (mt_cmp
      (ok_eq hr.units) (me_ix (me_var 3) me_int) me_str) (ms_cons (ms_sub (me_ix (me_var 2) (me_ix (me_var 3) me_int)) (me_var 7) (me_var 8)) (ms_cons (ms_sub (me_ix (me_var 2)
      (me_var 8)) (me_var 7) (me_ix (me_var 3) me_int)) (ms_one (ms_ret (me_callTy ok_tuple rfl T.z_tuple bt_tuple (ma_cons (me_var 7) ma_nil)))))) ms_nil) (ms_cons (ms_set (i :=
      9) sc__law_act.nd rfl (Or.inl rfl) (me_ix2 (hu1 hr) (me_dct (ps := [((eC (.str (Str.ofString "add"))), (eOp ixD (eVar 2) (eVar 8))), ((eC (.str (Str.ofString "scale"))), (eC
      (.int (0)))), ((eC (.str (Str.ofString "set"))), (eC (.int (0)))), ((eC (.str (Str.ofString "mix"))), (eOp ixD (eVar 2) (eVar 8))), ((eC (.str (Str.ofString "copy"))), (eC
      (.int (0))))]) (pps_cons me_str (me_ix (me_var 2) (me_var 8)) (pps_cons me_str me_int (pps_cons me_str me_int (pps_cons me_str (me_ix (me_var 2) (me_var 8)) (pps_cons me_str
      me_int pps_nil))))) rfl rfl (by simp) (by decide)) (me_ix (me_var 3) me_int))) (ms_cons (ms_if (mt_cmp (ok_in (hu65 hr)) (me_ix (me_var 3) me_int) (me_tup (ma_cons me_str
      (ma_cons me_str ma_nil)))) (ms_one (ms_set (i := 9) sc__law_act.nd rfl (Or.inl rfl) (me_op ok_add (me_var 9) (me_ix (me_var 3) me_int)))) (ms_one (ms_if (mt_cmp (ok_eq
      hr.units) (me_ix (me_var 3) me_int) me_str) (ms_one (ms_set (i := 9) sc__law_act.nd rfl (Or.inl rfl) (me_op ok_mul (me_ix (me_var 2) (me_var 8)) (me_ix (me_var 3) me_int))))
      (ms_one (ms_set (i := 9) sc__law_act.nd rfl (Or.inl rfl) (me_op ok_add (me_var 9) (me_op ok_mul (me_ix (me_var 2) (me_ix (me_var 3) me_int)) (me_if (mt_cmp (ok_eq hr.units)
      (me_ix (me_var 3) me_int) me_str) (me_ix (me_var 3) me_int) me_int)))))))) (ms_cons (ms_sub (me_op ok_mod (me_callTy ok_int rfl T.z_int bt_int (ma_cons (me_var 9) ma_nil))
      (me_ix (me_var 0) (me_var 8))) (me_var 7) (me_var 8)) (ms_one (ms_ret (me_callTy ok_tuple rfl T.z_tuple bt_tuple (ma_cons (me_var 7) ma_nil))))))))))))
theorem ok__law_act (T : TX K mg) : FnG P w K mg base 1 T.a__law_act T.d__law_act ["shape", "row", "state"] (spM K G 3 c__law_act) := (ok0__law_act T).loc
theorem ok0__law_divides (T : TX K mg) : FnG P w K mg base 1 T.a__law_divides T.d__law_divides ["base", "factor"] (spM K G 2 m__law_divides) :=
  defM (body := b__law_divides) T.F__law_divides sc__law_divides 3 2 rfl rfl (fun cdv A outer s H E hr hgd => (ms_one (ms_ret (me_cmp (ok_ne hr.units) (me_lc (own := [("one", 2)]) rfl sc__law_divides.nd (mi_rng2 rfl T.z_range (ma_cons me_int (ma_cons (me_op ok_add (me_var 0) me_int)
      ma_nil))) (blkOk_by (own := [("one", 2)]) (N := nm__law_divides) (sc := defScope st__law_divides) (by decide +kernel)) (by decide) (fun _ _ _ _ _ => (mg_nm 2
      sc__law_divides.nd rfl (Or.inl rfl))) (fun _ _ _ _ _ => (mts_one (PW.pt (mw_and (mt_cmp (ok_eq hr.units) (me_op ok_mod (me_callTy ok_int rfl T.z_int bt_int (ma_cons (me_var
      0) ma_nil)) (me_var 2)) me_int) (mw_and1 (mt_cmp (ok_eq hr.units) (me_op ok_mod (me_callTy ok_int rfl T.z_int bt_int (ma_cons (me_var 1) ma_nil)) (me_var 2)) me_int))))))
      (fun _ _ _ _ _ => (me_var 2))) (me_lst ma_nil)))))
theorem ok__law_divides (T : TX K mg) : FnG P w K mg base 1 T.a__law_divides T.d__law_divides ["base", "factor"] (spM K G 2 c__law_divides) := (ok0__law_divides T).loc
theorem ok0__law_loses (T : TX K mg) : FnG P w K mg base 2 T.a__law_loses T.d__law_loses ["shape", "row"] (spM K G 2 m__law_loses) :=
  defM (body := b__law_loses) T.F__law_loses sc__law_loses 3 2 rfl rfl (fun cdv A outer s H E hr hgd => (ms_cons (ms_set (i := 2) sc__law_loses.nd rfl (Or.inl rfl) (me_ix (me_var 1) me_int)) (ms_cons (ms_if (mt_cmp (ok_eq hr.units) (me_ix (me_var 2) me_int) me_str) (ms_one (ms_ret
      (me_call (ok__law_divides T) hgd (takes_of rfl rfl rfl rfl) (hr.mono (by decide)) rfl T.g__law_divides T.F__law_divides.kp T.b__law_divides rfl (aCons_len (aCons_len
      aNil_len)) (ma_cons (me_ix (me_var 0) (me_ix (me_var 2) me_int)) (ma_cons (me_ix (me_var 2) me_int) ma_nil))))) ms_nil) (ms_one (ms_ret (me_cmp (ok_in (hu65 hr)) (me_ix
      (me_var 2) me_int) (me_tup (ma_cons me_str (ma_cons me_str ma_nil)))))))))
theorem ok__law_loses (T : TX K mg) : FnG P w K mg base 2 T.a__law_loses T.d__law_loses ["shape", "row"] (spM K G 2 c__law_loses) := (ok0__law_loses T).loc
theorem ok_law (T : TX K mg) : FnG P w K mg base 5 T.a_law T.d_law ["script"] (spM K G 1 m_law) :=
  defM (body := b_law) T.F_law sc_law 10 1 rfl rfl (fun cdv A outer s H E hr hgd => (ms_cons (ms_if (mt_not (mt_truth (me_call0 (ok__law_typed_right T) hgd (takes_of rfl rfl rfl rfl) (hr.mono (by decide)) rfl T.g__law_typed_right T.F__law_typed_right.kp
      T.b__law_typed_right))) (ms_one (ms_ret me_bl)) ms_nil) (ms_cons (ms_set (i := 1) sc_law.nd rfl (Or.inl rfl) (me_lst (ma_cons me_str (ma_cons me_str (ma_cons me_str (ma_cons
      me_str (ma_cons me_str (ma_cons me_str (ma_cons me_str ma_nil))))))))) (ms_cons (ms_for (passes_of rfl) rfl (mi_rng1 rfl T.z_range (ma_cons (me_callB (ok_max rfl) rfl T.z_max
      bt_max (ma_cons me_int (ma_cons (me_callB (ok_min rfl) rfl T.z_min bt_min (ma_cons me_int (ma_cons (me_callB ok_len rfl T.z_len bt_len (ma_cons (me_var 0) ma_nil)) ma_nil)))
      ma_nil))) ma_nil)) (mg_nm 2 sc_law.nd rfl (Or.inl rfl)) (ms_cons (ms_set (i := 3) sc_law.nd rfl (Or.inl rfl) (me_call (ok__law_feed T) hgd (takes_of rfl rfl rfl rfl) (hr.mono
      (by decide)) rfl T.g__law_feed T.F__law_feed.kp T.b__law_feed rfl (aCons_len (aCons_len aNil_len)) (ma_cons (me_var 0) (ma_cons (me_var 2) ma_nil)))) (ms_cons (ms_set (i :=
      4) sc_law.nd rfl (Or.inl rfl) (me_call (ok__law_pick T) hgd (takes_of rfl rfl rfl rfl) (hr.mono (by decide)) rfl T.g__law_pick T.F__law_pick.kp T.b__law_pick rfl (aCons_len
      (aCons_len aNil_len)) (ma_cons (me_var 3) (ma_cons (me_lst (ma_cons (me_call (ok__law_shape T) hgd (takes_of rfl rfl rfl rfl) (hr.mono (by decide)) rfl T.g__law_shape
      T.F__law_shape.kp T.b__law_shape rfl (aCons_len aNil_len) (ma_cons (me_var 3) ma_nil)) (ma_cons (me_tup (ma_cons me_int (ma_cons me_int (ma_cons me_int (ma_cons me_int
      (ma_cons me_int ma_nil)))))) (ma_cons (me_tup (ma_cons me_int (ma_cons me_int (ma_cons me_int (ma_cons me_int (ma_cons me_int ma_nil)))))) (ma_cons (me_op ok_mul (me_tup
      (ma_cons me_int ma_nil)) me_int) (ma_cons (me_tup (ma_cons me_int (ma_cons me_int (ma_cons me_int (ma_cons me_int (ma_cons me_int ma_nil)))))) ma_nil)))))) ma_nil)))) (ms_one
      (ms_for (passes_of rfl) rfl (mi_rng1 rfl T.z_range (ma_cons me_int ma_nil)) (mg_nm 5 sc_law.nd rfl (Or.inl rfl)) (ms_cons (ms_par (i := 6) (j := 7) rfl sc_law.nd rfl rfl (by
      decide) rfl rfl (ma_cons (me_call (ok__law_row T) hgd (takes_of rfl rfl rfl rfl) (hr.mono (by decide)) rfl T.g__law_row T.F__law_row.kp T.b__law_row rfl (aCons_len (aCons_len
      (aCons_len aNil_len))) (ma_cons (me_var 3) (ma_cons (me_var 4) (ma_cons (me_var 1) ma_nil)))) (ma_cons (me_call (ok__law_state T) hgd (takes_of rfl rfl rfl rfl) (hr.mono (by
      decide)) rfl T.g__law_state T.F__law_state.kp T.b__law_state rfl (aCons_len (aCons_len aNil_len)) (ma_cons (me_var 3) (ma_cons (me_var 4) ma_nil))) ma_nil))) (ms_cons (ms_if
      (mt_cmp (ok_eq hr.units) (me_call (ok__law_take T) hgd (takes_of rfl rfl rfl rfl) (hr.mono (by decide)) rfl T.g__law_take T.F__law_take.kp T.b__law_take rfl (aCons_len
      (aCons_len aNil_len)) (ma_cons (me_var 3) (ma_cons me_int ma_nil))) me_int) (ms_cons (ms_set (i := 8) sc_law.nd rfl (Or.inl rfl) (me_call (ok__law_take T) hgd (takes_of rfl
      rfl rfl rfl) (hr.mono (by decide)) rfl T.g__law_take T.F__law_take.kp T.b__law_take rfl (aCons_len (aCons_len aNil_len)) (ma_cons (me_var 3) (ma_cons (me_callB ok_len rfl
      T.z_len bt_len (ma_cons (me_var 4) ma_nil)) ma_nil)))) (ms_one (ms_set (i := 6) sc_law.nd rfl (Or.inl rfl) (me_tup (ma_cons (me_tup (ma_cons me_str (ma_cons (me_var 8)
      (ma_cons (me_call (ok__law_take T) hgd (takes_of rfl rfl rfl rfl) (hr.mono (by decide)) rfl T.g__law_take T.F__law_take.kp T.b__law_take rfl (aCons_len (aCons_len aNil_len))
      (ma_cons (me_var 3) (ma_cons (me_ix (me_var 4) (me_var 8)) ma_nil))) ma_nil)))) (ma_cons (me_tup ma_nil) ma_nil)))))) ms_nil) (ms_cons (ms_set (i := 9) sc_law.nd rfl (Or.inl
      rfl) (me_callB (ok_repr hgd (hu66 hr)) rfl T.z_repr bt_repr (ma_cons (me_lst (ma_cons (me_var 4) (ma_cons (me_var 6) (ma_cons (me_var 7) ma_nil)))) ma_nil))) (ms_cons (ms_if
      (mt_cmp (ok_ne hr.units) (me_callB (ok_repr hgd (hu66 hr)) rfl T.z_repr bt_repr (ma_cons (me_call (ok_done T) hgd (takes_of rfl rfl rfl rfl) (hr.mono (by decide)) rfl
      T.g_done T.F_done.kp T.b_done rfl (aCons_len (aCons_len (aCons_len aNil_len))) (ma_cons (me_var 4) (ma_cons (me_var 6) (ma_cons (me_var 7) ma_nil)))) ma_nil)) (me_callB
      (ok_repr hgd (hu66 hr)) rfl T.z_repr bt_repr (ma_cons (me_call (ok__law_act T) hgd (takes_of rfl rfl rfl rfl) (hr.mono (by decide)) rfl T.g__law_act T.F__law_act.kp
      T.b__law_act rfl (aCons_len (aCons_len (aCons_len aNil_len))) (ma_cons (me_var 4) (ma_cons (me_var 6) (ma_cons (me_var 7) ma_nil)))) ma_nil))) (ms_one (ms_ret me_bl)) ms_nil)
      (ms_one (ms_if (PW.pt (mw_or (mt_cmp (ok_ne hr.units) (me_callB (ok_repr hgd (hu66 hr)) rfl T.z_repr bt_repr (ma_cons (me_call (ok_loses T) hgd (takes_of rfl rfl rfl rfl)
      (hr.mono (by decide)) rfl T.g_loses T.F_loses.kp T.b_loses rfl (aCons_len (aCons_len aNil_len)) (ma_cons (me_var 4) (ma_cons (me_var 6) ma_nil))) ma_nil)) (me_callB (ok_repr
      hgd (hu66 hr)) rfl T.z_repr bt_repr (ma_cons (me_call (ok__law_loses T) hgd (takes_of rfl rfl rfl rfl) (hr.mono (by decide)) rfl T.g__law_loses T.F__law_loses.kp
      T.b__law_loses rfl (aCons_len (aCons_len aNil_len)) (ma_cons (me_var 4) (ma_cons (me_var 6) ma_nil))) ma_nil))) (mw_or1 (mt_cmp (ok_ne hr.units) (me_callB (ok_repr hgd (hu66
      hr)) rfl T.z_repr bt_repr (ma_cons (me_lst (ma_cons (me_var 4) (ma_cons (me_var 6) (ma_cons (me_var 7) ma_nil)))) ma_nil)) (me_var 9))))) (ms_one (ms_ret me_bl))
      ms_nil))))))))))) (ms_one (ms_ret me_bl))))))
end
def all_mk {K : PySem.W.Frag} {h : Heap} {mg : Str → Option Value} {f0 f1 f2 f3 f4 f5 f6 f7 f8 f9 f10 f11 f12 f13 f14 f15 : Addr} (X : K.In h) (GG : h.Ns mainGlobals mg)
    {oc0 kV0 dc0 pm0 cd0 ct0 : Value} {od0 an0 : Option Addr} {sl0 : Array (Option Value)}
    {oc1 kV1 dc1 pm1 cd1 ct1 : Value} {od1 an1 : Option Addr} {sl1 : Array (Option Value)}
    {oc2 kV2 dc2 pm2 cd2 ct2 : Value} {od2 an2 : Option Addr} {sl2 : Array (Option Value)}
    {oc3 kV3 dc3 pm3 cd3 ct3 : Value} {od3 an3 : Option Addr} {sl3 : Array (Option Value)}
    {oc4 kV4 dc4 pm4 cd4 ct4 : Value} {od4 an4 : Option Addr} {sl4 : Array (Option Value)}
    {oc5 kV5 dc5 pm5 cd5 ct5 : Value} {od5 an5 : Option Addr} {sl5 : Array (Option Value)}
    {oc6 kV6 dc6 pm6 cd6 ct6 : Value} {od6 an6 : Option Addr} {sl6 : Array (Option Value)}
    {oc7 kV7 dc7 pm7 cd7 ct7 : Value} {od7 an7 : Option Addr} {sl7 : Array (Option Value)}
    {oc8 kV8 dc8 pm8 cd8 ct8 : Value} {od8 an8 : Option Addr} {sl8 : Array (Option Value)}
    {oc9 kV9 dc9 pm9 cd9 ct9 : Value} {od9 an9 : Option Addr} {sl9 : Array (Option Value)}
    {oc10 kV10 dc10 pm10 cd10 ct10 : Value} {od10 an10 : Option Addr} {sl10 : Array (Option Value)}
    {oc11 kV11 dc11 pm11 cd11 ct11 : Value} {od11 an11 : Option Addr} {sl11 : Array (Option Value)}
    {oc12 kV12 dc12 pm12 cd12 ct12 : Value} {od12 an12 : Option Addr} {sl12 : Array (Option Value)}
    {oc13 kV13 dc13 pm13 cd13 ct13 : Value} {od13 an13 : Option Addr} {sl13 : Array (Option Value)}
    {oc14 kV14 dc14 pm14 cd14 ct14 : Value} {od14 an14 : Option Addr} {sl14 : Array (Option Value)}
    {oc15 kV15 dc15 pm15 cd15 ct15 : Value} {od15 an15 : Option Addr} {sl15 : Array (Option Value)}
    (a0 : PySem.W.nsIn K mainGlobals "loses" = some (some (.ref f0))) (l0 : K.lookup f0 = some ⟨oc0, od0, .func (PySem.W.fnOf "loses" "loses" (defArgs st_loses) (defBody st_loses) (defScope st_loses) .none kV0 dc0 pm0 an0 cd0 ct0), sl0⟩) (c0 : PySem.W.codeIn K cd0 "loses" = true) (k0 : PySem.W.keepIn K (.ref f0) = true)
    (a1 : PySem.W.nsIn K mainGlobals "_new_digit" = some (some (.ref f1))) (l1 : K.lookup f1 = some ⟨oc1, od1, .func (PySem.W.fnOf "_new_digit" "_new_digit" (defArgs st__new_digit) (defBody st__new_digit) (defScope st__new_digit) .none kV1 dc1 pm1 an1 cd1 ct1), sl1⟩) (c1 : PySem.W.codeIn K cd1 "_new_digit" = true) (k1 : PySem.W.keepIn K (.ref f1) = true)
    (a2 : PySem.W.nsIn K mainGlobals "done" = some (some (.ref f2))) (l2 : K.lookup f2 = some ⟨oc2, od2, .func (PySem.W.fnOf "done" "done" (defArgs st_done) (defBody st_done) (defScope st_done) .none kV2 dc2 pm2 an2 cd2 ct2), sl2⟩) (c2 : PySem.W.codeIn K cd2 "done" = true) (k2 : PySem.W.keepIn K (.ref f2) = true)
    (a3 : PySem.W.nsIn K mainGlobals "_law_typed_right" = some (some (.ref f3))) (l3 : K.lookup f3 = some ⟨oc3, od3, .func (PySem.W.fnOf "_law_typed_right" "_law_typed_right" (defArgs st__law_typed_right) (defBody st__law_typed_right) (defScope st__law_typed_right) .none kV3 dc3 pm3 an3 cd3 ct3), sl3⟩) (c3 : PySem.W.codeIn K cd3 "_law_typed_right" = true) (k3 : PySem.W.keepIn K (.ref f3) = true)
    (a4 : PySem.W.nsIn K mainGlobals "_law_feed" = some (some (.ref f4))) (l4 : K.lookup f4 = some ⟨oc4, od4, .func (PySem.W.fnOf "_law_feed" "_law_feed" (defArgs st__law_feed) (defBody st__law_feed) (defScope st__law_feed) .none kV4 dc4 pm4 an4 cd4 ct4), sl4⟩) (c4 : PySem.W.codeIn K cd4 "_law_feed" = true) (k4 : PySem.W.keepIn K (.ref f4) = true)
    (a5 : PySem.W.nsIn K mainGlobals "_law_take" = some (some (.ref f5))) (l5 : K.lookup f5 = some ⟨oc5, od5, .func (PySem.W.fnOf "_law_take" "_law_take" (defArgs st__law_take) (defBody st__law_take) (defScope st__law_take) .none kV5 dc5 pm5 an5 cd5 ct5), sl5⟩) (c5 : PySem.W.codeIn K cd5 "_law_take" = true) (k5 : PySem.W.keepIn K (.ref f5) = true)
    (a6 : PySem.W.nsIn K mainGlobals "_law_pick" = some (some (.ref f6))) (l6 : K.lookup f6 = some ⟨oc6, od6, .func (PySem.W.fnOf "_law_pick" "_law_pick" (defArgs st__law_pick) (defBody st__law_pick) (defScope st__law_pick) .none kV6 dc6 pm6 an6 cd6 ct6), sl6⟩) (c6 : PySem.W.codeIn K cd6 "_law_pick" = true) (k6 : PySem.W.keepIn K (.ref f6) = true)
    (a7 : PySem.W.nsIn K mainGlobals "_law_shape" = some (some (.ref f7))) (l7 : K.lookup f7 = some ⟨oc7, od7, .func (PySem.W.fnOf "_law_shape" "_law_shape" (defArgs st__law_shape) (defBody st__law_shape) (defScope st__law_shape) .none kV7 dc7 pm7 an7 cd7 ct7), sl7⟩) (c7 : PySem.W.codeIn K cd7 "_law_shape" = true) (k7 : PySem.W.keepIn K (.ref f7) = true)
    (a8 : PySem.W.nsIn K mainGlobals "_law_action" = some (some (.ref f8))) (l8 : K.lookup f8 = some ⟨oc8, od8, .func (PySem.W.fnOf "_law_action" "_law_action" (defArgs st__law_action) (defBody st__law_action) (defScope st__law_action) .none kV8 dc8 pm8 an8 cd8 ct8), sl8⟩) (c8 : PySem.W.codeIn K cd8 "_law_action" = true) (k8 : PySem.W.keepIn K (.ref f8) = true)
    (a9 : PySem.W.nsIn K mainGlobals "_law_conditions" = some (some (.ref f9))) (l9 : K.lookup f9 = some ⟨oc9, od9, .func (PySem.W.fnOf "_law_conditions" "_law_conditions" (defArgs st__law_conditions) (defBody st__law_conditions) (defScope st__law_conditions) .none kV9 dc9 pm9 an9 cd9 ct9), sl9⟩) (c9 : PySem.W.codeIn K cd9 "_law_conditions" = true) (k9 : PySem.W.keepIn K (.ref f9) = true)
    (a10 : PySem.W.nsIn K mainGlobals "_law_row" = some (some (.ref f10))) (l10 : K.lookup f10 = some ⟨oc10, od10, .func (PySem.W.fnOf "_law_row" "_law_row" (defArgs st__law_row) (defBody st__law_row) (defScope st__law_row) .none kV10 dc10 pm10 an10 cd10 ct10), sl10⟩) (c10 : PySem.W.codeIn K cd10 "_law_row" = true) (k10 : PySem.W.keepIn K (.ref f10) = true)
    (a11 : PySem.W.nsIn K mainGlobals "_law_state" = some (some (.ref f11))) (l11 : K.lookup f11 = some ⟨oc11, od11, .func (PySem.W.fnOf "_law_state" "_law_state" (defArgs st__law_state) (defBody st__law_state) (defScope st__law_state) .none kV11 dc11 pm11 an11 cd11 ct11), sl11⟩) (c11 : PySem.W.codeIn K cd11 "_law_state" = true) (k11 : PySem.W.keepIn K (.ref f11) = true)
    (a12 : PySem.W.nsIn K mainGlobals "_law_act" = some (some (.ref f12))) (l12 : K.lookup f12 = some ⟨oc12, od12, .func (PySem.W.fnOf "_law_act" "_law_act" (defArgs st__law_act) (defBody st__law_act) (defScope st__law_act) .none kV12 dc12 pm12 an12 cd12 ct12), sl12⟩) (c12 : PySem.W.codeIn K cd12 "_law_act" = true) (k12 : PySem.W.keepIn K (.ref f12) = true)
    (a13 : PySem.W.nsIn K mainGlobals "_law_divides" = some (some (.ref f13))) (l13 : K.lookup f13 = some ⟨oc13, od13, .func (PySem.W.fnOf "_law_divides" "_law_divides" (defArgs st__law_divides) (defBody st__law_divides) (defScope st__law_divides) .none kV13 dc13 pm13 an13 cd13 ct13), sl13⟩) (c13 : PySem.W.codeIn K cd13 "_law_divides" = true) (k13 : PySem.W.keepIn K (.ref f13) = true)
    (a14 : PySem.W.nsIn K mainGlobals "_law_loses" = some (some (.ref f14))) (l14 : K.lookup f14 = some ⟨oc14, od14, .func (PySem.W.fnOf "_law_loses" "_law_loses" (defArgs st__law_loses) (defBody st__law_loses) (defScope st__law_loses) .none kV14 dc14 pm14 an14 cd14 ct14), sl14⟩) (c14 : PySem.W.codeIn K cd14 "_law_loses" = true) (k14 : PySem.W.keepIn K (.ref f14) = true)
    (a15 : PySem.W.nsIn K mainGlobals "law" = some (some (.ref f15))) (l15 : K.lookup f15 = some ⟨oc15, od15, .func (PySem.W.fnOf "law" "law" (defArgs st_law) (defBody st_law) (defScope st_law) .none kV15 dc15 pm15 an15 cd15 ct15), sl15⟩) (c15 : PySem.W.codeIn K cd15 "law" = true) (k15 : PySem.W.keepIn K (.ref f15) = true)
    (z_abs : PySem.W.nsIn K mainGlobals "abs" = some none)
    (z_all : PySem.W.nsIn K mainGlobals "all" = some none)
    (z_int : PySem.W.nsIn K mainGlobals "int" = some none)
    (z_len : PySem.W.nsIn K mainGlobals "len" = some none)
    (z_list : PySem.W.nsIn K mainGlobals "list" = some none)
    (z_max : PySem.W.nsIn K mainGlobals "max" = some none)
    (z_min : PySem.W.nsIn K mainGlobals "min" = some none)
    (z_range : PySem.W.nsIn K mainGlobals "range" = some none)
    (z_repr : PySem.W.nsIn K mainGlobals "repr" = some none)
    (z_sorted : PySem.W.nsIn K mainGlobals "sorted" = some none)
    (z_tuple : PySem.W.nsIn K mainGlobals "tuple" = some none)
    (v_gcd : PySem.W.nsIn K mainGlobals "gcd" = some (some (.builtin "math.gcd")))
    : TX K mg :=
  { a_loses := f0, d_loses := _, g_loses := PySem.W.mg_of X GG a0, F_loses := fun_mk (st := st_loses) l0 c0 k0, b_loses := (fun_mk (st := st_loses) l0 c0 k0).binds (ps := ["shape", "row"]) fun _ _ _ _ _ _ us hl => match us, hl with | [_, _], _ => rfl,
     a__new_digit := f1, d__new_digit := _, g__new_digit := PySem.W.mg_of X GG a1, F__new_digit := fun_mk (st := st__new_digit) l1 c1 k1, b__new_digit := (fun_mk (st := st__new_digit) l1 c1 k1).binds (ps := ["action", "state"]) fun _ _ _ _ _ _ us hl => match us, hl with | [_, _], _ => rfl,
     a_done := f2, d_done := _, g_done := PySem.W.mg_of X GG a2, F_done := fun_mk (st := st_done) l2 c2 k2, b_done := (fun_mk (st := st_done) l2 c2 k2).binds (ps := ["shape", "row", "state"]) fun _ _ _ _ _ _ us hl => match us, hl with | [_, _, _], _ => rfl,
     a__law_typed_right := f3, d__law_typed_right := _, g__law_typed_right := PySem.W.mg_of X GG a3, F__law_typed_right := fun_mk (st := st__law_typed_right) l3 c3 k3, b__law_typed_right := (fun_mk (st := st__law_typed_right) l3 c3 k3).binds (ps := []) fun _ _ _ _ _ _ us hl => match us, hl with | [], _ => rfl,
     a__law_feed := f4, d__law_feed := _, g__law_feed := PySem.W.mg_of X GG a4, F__law_feed := fun_mk (st := st__law_feed) l4 c4 k4, b__law_feed := (fun_mk (st := st__law_feed) l4 c4 k4).binds (ps := ["script", "k"]) fun _ _ _ _ _ _ us hl => match us, hl with | [_, _], _ => rfl,
     a__law_take := f5, d__law_take := _, g__law_take := PySem.W.mg_of X GG a5, F__law_take := fun_mk (st := st__law_take) l5 c5 k5, b__law_take := (fun_mk (st := st__law_take) l5 c5 k5).binds (ps := ["feed", "many"]) fun _ _ _ _ _ _ us hl => match us, hl with | [_, _], _ => rfl,
     a__law_pick := f6, d__law_pick := _, g__law_pick := PySem.W.mg_of X GG a6, F__law_pick := fun_mk (st := st__law_pick) l6 c6 k6, b__law_pick := (fun_mk (st := st__law_pick) l6 c6 k6).binds (ps := ["feed", "some"]) fun _ _ _ _ _ _ us hl => match us, hl with | [_, _], _ => rfl,
     a__law_shape := f7, d__law_shape := _, g__law_shape := PySem.W.mg_of X GG a7, F__law_shape := fun_mk (st := st__law_shape) l7 c7 k7, b__law_shape := (fun_mk (st := st__law_shape) l7 c7 k7).binds (ps := ["feed"]) fun _ _ _ _ _ _ us hl => match us, hl with | [_], _ => rfl,
     a__law_action := f8, d__law_action := _, g__law_action := PySem.W.mg_of X GG a8, F__law_action := fun_mk (st := st__law_action) l8 c8 k8, b__law_action := (fun_mk (st := st__law_action) l8 c8 k8).binds (ps := ["feed", "shape", "word", "index"]) fun _ _ _ _ _ _ us hl => match us, hl with | [_, _, _, _], _ => rfl,
     a__law_conditions := f9, d__law_conditions := _, g__law_conditions := PySem.W.mg_of X GG a9, F__law_conditions := fun_mk (st := st__law_conditions) l9 c9 k9, b__law_conditions := (fun_mk (st := st__law_conditions) l9 c9 k9).binds (ps := ["feed", "shape", "altered"]) fun _ _ _ _ _ _ us hl => match us, hl with | [_, _, _], _ => rfl,
     a__law_row := f10, d__law_row := _, g__law_row := PySem.W.mg_of X GG a10, F__law_row := fun_mk (st := st__law_row) l10 c10 k10, b__law_row := (fun_mk (st := st__law_row) l10 c10 k10).binds (ps := ["feed", "shape", "words"]) fun _ _ _ _ _ _ us hl => match us, hl with | [_, _, _], _ => rfl,
     a__law_state := f11, d__law_state := _, g__law_state := PySem.W.mg_of X GG a11, F__law_state := fun_mk (st := st__law_state) l11 c11 k11, b__law_state := (fun_mk (st := st__law_state) l11 c11 k11).binds (ps := ["feed", "shape"]) fun _ _ _ _ _ _ us hl => match us, hl with | [_, _], _ => rfl,
     a__law_act := f12, d__law_act := _, g__law_act := PySem.W.mg_of X GG a12, F__law_act := fun_mk (st := st__law_act) l12 c12 k12, b__law_act := (fun_mk (st := st__law_act) l12 c12 k12).binds (ps := ["shape", "row", "state"]) fun _ _ _ _ _ _ us hl => match us, hl with | [_, _, _], _ => rfl,
     a__law_divides := f13, d__law_divides := _, g__law_divides := PySem.W.mg_of X GG a13, F__law_divides := fun_mk (st := st__law_divides) l13 c13 k13, b__law_divides := (fun_mk (st := st__law_divides) l13 c13 k13).binds (ps := ["base", "factor"]) fun _ _ _ _ _ _ us hl => match us, hl with | [_, _], _ => rfl,
     a__law_loses := f14, d__law_loses := _, g__law_loses := PySem.W.mg_of X GG a14, F__law_loses := fun_mk (st := st__law_loses) l14 c14 k14, b__law_loses := (fun_mk (st := st__law_loses) l14 c14 k14).binds (ps := ["shape", "row"]) fun _ _ _ _ _ _ us hl => match us, hl with | [_, _], _ => rfl,
     a_law := f15, d_law := _, g_law := PySem.W.mg_of X GG a15, F_law := fun_mk (st := st_law) l15 c15 k15, b_law := (fun_mk (st := st_law) l15 c15 k15).binds (ps := ["script"]) fun _ _ _ _ _ _ us hl => match us, hl with | [_], _ => rfl,
     z_abs := PySem.W.mg_none_of X GG z_abs,
     z_all := PySem.W.mg_none_of X GG z_all,
     z_int := PySem.W.mg_none_of X GG z_int,
     z_len := PySem.W.mg_none_of X GG z_len,
     z_list := PySem.W.mg_none_of X GG z_list,
     z_max := PySem.W.mg_none_of X GG z_max,
     z_min := PySem.W.mg_none_of X GG z_min,
     z_range := PySem.W.mg_none_of X GG z_range,
     z_repr := PySem.W.mg_none_of X GG z_repr,
     z_sorted := PySem.W.mg_none_of X GG z_sorted,
     z_tuple := PySem.W.mg_none_of X GG z_tuple,
     g_gcd := PySem.W.mg_of X GG v_gcd }
theorem fin {P : Program} {w : World} {K : PySem.W.Frag} {h : Heap} {mg : Str → Option Value} {fa : Addr} (X : K.In h) (GG : h.Ns mainGlobals mg) (hfa : mg "law" = some (.ref fa)) (T : TX K mg) :
    ∃ (fd : FuncData) (G : Nat → Option Addr), (∀ (s : Shared) (u : Value), BindsTo s fd ⟨[u], []⟩ [("script", u)]) ∧ ∀ base : Heap, K.In base → base.Ns mainGlobals mg → FnG P w K mg base 5 fa fd ["script"] (spM K G 1 m_law) := by
  obtain rfl : T.a_law = fa := by
    have q := T.g_law.symm.trans hfa
    injection q with q
    injection q
  refine ⟨T.d_law, fun _ => none, fun s u => ?_, fun base _ _ => ok_law T⟩
  obtain ⟨oc, od, kV, doc, pm, an, cdv, ct, osl, e, lk, hcd⟩ := T.F_law.ex
  rw [e]
  exact .of_eq rfl
end K03

open PySem PySem.W PyProof.Rows
set_option maxHeartbeats 0 in
theorem PySem.Challenge.cw_pauseplaces_k03_rows_done_holds : PySem.Challenge.rw_pauseplaces_k03_rows_done.Holds := by
  w_on; o_law; k_head; (case hw => w_witness2)
  k_fill
  refine MM.walkG (l := PySem.Challenge.rw_pauseplaces_k03_rows_done) (n := 63) (k := 5) (x := "script") (fm := K03.m_law) rfl (by decide) rfl ⟨rfl, by decide, by decide⟩ (fun w h Y => PySem.W.kIn_of Y) ?F K03.law_true
  case F =>
    intro w mg fa h KX G hmg
    refine' K03.fin KX G hmg (K03.all_mk KX G ?a0 ?l0 ?c0 ?k0 ?a1 ?l1 ?c1 ?k1 ?a2 ?l2 ?c2 ?k2 ?a3 ?l3 ?c3 ?k3 ?a4 ?l4 ?c4 ?k4 ?a5 ?l5 ?c5 ?k5 ?a6 ?l6 ?c6 ?k6 ?a7 ?l7 ?c7 ?k7 ?a8 ?l8 ?c8 ?k8 ?a9 ?l9 ?c9 ?k9 ?a10 ?l10 ?c10 ?k10 ?a11 ?l11 ?c11 ?k11 ?a12 ?l12 ?c12 ?k12 ?a13 ?l13 ?c13 ?k13 ?a14 ?l14 ?c14 ?k14 ?a15 ?l15 ?c15 ?k15 ?z_abs ?z_all ?z_int ?z_len ?z_list ?z_max ?z_min ?z_range ?z_repr ?z_sorted ?z_tuple ?v_gcd)
    (case a0 => k_is); (case l0 => k_is); (case c0 => k_is); (case k0 => k_is); (case a1 => k_is); (case l1 => k_is); (case c1 => k_is); (case k1 => k_is); (case a2 => k_is); (case l2 => k_is); (case c2 => k_is); (case k2 => k_is); (case a3 => k_is); (case l3 => k_is); (case c3 => k_is); (case k3 => k_is); (case a4 => k_is); (case l4 => k_is); (case c4 => k_is); (case k4 => k_is); (case a5 => k_is); (case l5 => k_is); (case c5 => k_is); (case k5 => k_is); (case a6 => k_is); (case l6 => k_is); (case c6 => k_is); (case k6 => k_is); (case a7 => k_is); (case l7 => k_is); (case c7 => k_is); (case k7 => k_is); (case a8 => k_is); (case l8 => k_is); (case c8 => k_is); (case k8 => k_is); (case a9 => k_is); (case l9 => k_is); (case c9 => k_is); (case k9 => k_is); (case a10 => k_is); (case l10 => k_is); (case c10 => k_is); (case k10 => k_is); (case a11 => k_is); (case l11 => k_is); (case c11 => k_is); (case k11 => k_is); (case a12 => k_is); (case l12 => k_is); (case c12 => k_is); (case k12 => k_is); (case a13 => k_is); (case l13 => k_is); (case c13 => k_is); (case k13 => k_is); (case a14 => k_is); (case l14 => k_is); (case c14 => k_is); (case k14 => k_is); (case a15 => k_is); (case l15 => k_is); (case c15 => k_is); (case k15 => k_is); (case z_abs => k_is); (case z_all => k_is); (case z_int => k_is); (case z_len => k_is); (case z_list => k_is); (case z_max => k_is); (case z_min => k_is); (case z_range => k_is); (case z_repr => k_is); (case z_sorted => k_is); (case z_tuple => k_is); (case v_gcd => k_is)
