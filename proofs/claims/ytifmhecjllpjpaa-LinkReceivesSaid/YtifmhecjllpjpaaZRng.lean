/-
  Ranging over a map of the call's own, keyed by int; maps with the same keys have as many entries.
-/
import Derived.Test.YtifmhecjllpjpaaZMap
import Derived.Maps.RangeWalk
namespace Go.Proofs.Ytifmhecjllpjpaa
open Go.Maps Go.RowKit Go.ChangeMaps Go.MapKept
open Go.WideElems (Fit rd rg pl rd_val elemAt)

/-- A loop over the map in block b is under way (its iterator: block r): the keys of L are still to come. -/
def RngF (P : Program) (K : TypeId) (w : World) (b r n : Nat) (f : Int → Option Value) (L : Int → Bool) (cnt : Nat) : Prop :=
  ∃ (D : DataW Value) (left : Lit → Bool), w.ranges P K rawR b r n D left cnt ∧ Maps.size D = n ∧ (∀ k : Int, match f k with
    | none => Maps.has D (litI k) = false
    | some v => Maps.has D (litI k) = true ∧ ∀ z, D.atKey (litI k) z = .held v) ∧ ∀ k, left (litI k) = L k

section
variable {P : Program} {K E T : TypeId} {w w' : World} {b r n cnt : Nat} {f : Int → Option Value} {L : Int → Bool} {ops : Array Oper} {rest : List Oper} {o : Oper} {a : Act} {Q : Exit → Act → World → Prop}
theorem RngF.map (h : RngF P K w b r n f L cnt) : MapF P K w b n f := by obtain ⟨D, left, h, hs, hf, _⟩ := h; exact ⟨D, h.owns, hs, hf⟩
theorem RngF.left_eq (h : RngF P K w b r n f L cnt) : w.rangeLeft b r = cnt := by obtain ⟨D, left, h, _⟩ := h; exact h.left_eq
theorem RngF.iter (h : RngF P K w b r n f L cnt) : ∃ m s e c, w.heap[r]? = some (.mapIter m s e c) := by obtain ⟨D, left, ⟨es, clock, since, seen, c0, h1, h2, h3, h4, h5, h6⟩, h7⟩ := h; exact ⟨_, _, _, _, h5⟩
theorem RngF.ne (h : RngF P K w b r n f L cnt) : r ≠ b := by obtain ⟨D, left, h, _⟩ := h; exact h.ne
theorem RngF.lt (h : RngF P K w b r n f L cnt) : r < w.heap.size := by obtain ⟨D, left, h, _⟩ := h; exact h.lt
theorem RngF.only {S : Nat → Prop} (h : RngF P K w b r n f L cnt) (ho : Only S w w') (hb : ¬ S b) (hr : ¬ S r) : RngF P K w' b r n f L cnt := by
  obtain ⟨D, left, ⟨es, clock, since, seen, c0, h1, h2, h3, h4, h5, h6⟩, h7⟩ := h
  exact ⟨D, left, ⟨es, clock, since, seen, c0, (ho.block b (Array.getElem?_eq_some_iff.1 h1).1 hb).trans h1, h2, h3, h4, (ho.block r (Array.getElem?_eq_some_iff.1 h5).1 hr).trans h5, h6⟩, h7⟩

theorem wpList_range_raw (hg : o.guard = none) (m : Operand) (hop : o.op = Op.range T m) (hK : P.underlying K = some (.int .i64)) (ht : P.underlying T = some (.map K E)) (hm : a.eval m = .map (some b)) (hown : MapF P K w b n f)
    (h : ∀ w' L, RngF P K w' b w.heap.size n f L n → (∀ k, L k = (f k).isSome) → w.grownBy w' none → w'.heap.size = w.heap.size + 1 → wpList P ops Q rest (a.put o.dst (.pointer (some ⟨w.heap.size, 0, none⟩))) w') :
    wpList P ops Q (o :: rest) a w := by
  obtain ⟨D, ho, hs, hf⟩ := hown
  refine wpList_range_own w hg m T hop K E (int_keyed hK) ht rawR b n D hm ho ?_
  intro w1 hr hg1 hs1
  refine h w1 (fun k => Maps.has D (litI k)) ⟨D, _, by rw [hs] at hr; exact hr, hs, hf, fun k => rfl⟩ (fun k => ?_) hg1 hs1
  have hk := hf k
  cases e : f k with
  | none => rw [e] at hk; simpa using hk
  | some v => rw [e] at hk; simpa using hk.1

theorem sameKey_litI (k x : Int) : (litI k).sameKey (litI x) = decide (k = x) := by
  by_cases e : k = x
  · subst e
    rw [WideAt.sameKey_self (litI_key k)]
    simp
  · rw [decide_eq_false e]
    cases h : (litI k).sameKey (litI x) with
    | false => rfl
    | true => exact absurd (WideAt.sameKey_eq h) (litI_ne e)

theorem wpList_next_raw (hg : o.guard = none) (it : Operand) (hop : o.op = Op.next it false) (hK : P.underlying K = some (.int .i64)) (hit : a.eval it = .pointer (some ⟨r, 0, none⟩)) (h : RngF P K w b r n f L cnt)
    (hDone : cnt = 0 → (∀ k, L k = false) → wpList P ops Q rest (a.put o.dst (.tuple #[.bool false])) w)
    (hMore : ∀ (x : Int) (c : Value) (w' : World) (cnt' : Nat), (Lit.int .i64 x).wf = true → L x = true → f x = some c → RngF P K w' b r n f (fun k => if k = x then false else L k) cnt' → cnt' < cnt → w.grownBy w' (some r) → w'.heap.size = w.heap.size →
      (Instr.entry (.pointer (some ⟨r, 0, none⟩))).run P w' = .ok (.tuple #[.int .i64 x, c]) w' → wpList P ops Q rest (a.put o.dst (.tuple #[.bool true, .int .i64 x, c])) w') :
    wpList P ops Q (o :: rest) a w := by
  obtain ⟨D, left, hrg, hs, hf, hL⟩ := h
  refine wpList_next_ranges w hg it hop K (int_keyed hK) rawR (Value.int .i64) id (fun key kl hkey => by obtain ⟨x, rfl, _⟩ := Maps.keyOf_int_inv hK hkey; exact ⟨x, rfl⟩) (fun v y _ => ⟨v, rfl⟩) b r n D left cnt hit hrg (fun h0 hl => hDone h0 (fun k => by rw [← hL k]; exact hl _)) ?_
  intro x c kl y w1 cnt1 hkey hlk hv hat hrg1 hlt hgr hsz hen
  obtain ⟨x', ex, rfl, hwx⟩ := Maps.keyOf_int_inv hK hkey
  cases ex
  simp only [rawR, id, Option.some.injEq] at hv
  subst hv
  have hx := hf x
  have hfx : f x = some c := by
    cases e : f x with
    | none =>
      rw [e] at hx
      simp only at hx
      have h1 := Maps.atKey_of_not_has hx (.map [])
      have h2 := hat (.map [])
      rw [show (Lit.int .i64 x) = litI x from rfl, h1] at h2
      cases h2
    | some v =>
      rw [e] at hx
      simp only at hx
      have h1 := hx.2 (.map [])
      have h2 := hat (.map [])
      rw [show (Lit.int .i64 x) = litI x from rfl, h1] at h2
      injection h2 with h2
      rw [h2]
  refine hMore x c w1 cnt1 hwx (by rw [← hL x]; exact hlk) hfx ⟨D, _, hrg1, hs, hf, fun k => ?_⟩ hlt hgr hsz hen
  show (left (litI k) && !(litI k).sameKey (litI x)) = _
  rw [sameKey_litI, hL k]
  by_cases e : k = x
  · subst e
    simp
  · simp [e]

theorem len_sub : ∀ (l l' : List Lit), l.Pairwise (fun x y => x ≠ y) → (∀ x ∈ l, x ∈ l') → l.length ≤ l'.length
  | [], _, _, _ => Nat.zero_le _
  | x :: t, l', hp, hm => by
    obtain ⟨s, u, rfl⟩ := List.append_of_mem (hm x (List.mem_cons_self ..))
    rw [List.pairwise_cons] at hp
    have ih := len_sub t (s ++ u) hp.2 (fun y hy => by
      have h1 := hm y (List.mem_cons_of_mem _ hy)
      have h2 := hp.1 y hy
      simp only [List.mem_append, List.mem_cons] at h1 ⊢
      rcases h1 with h1 | h1 | h1
      · exact .inl h1
      · exact absurd h1.symm h2
      · exact .inr h1)
    simp only [List.length_append, List.length_cons] at ih ⊢
    omega

theorem MapF.keys (h : MapF P K w b n f) (hK : P.underlying K = some (.int .i64)) : ∃ ks : List Lit, ks.length = n ∧ ks.Pairwise (fun x y => x ≠ y) ∧ (∀ x ∈ ks, ∃ k, x = litI k ∧ f k ≠ none) ∧ ∀ k, f k ≠ none → litI k ∈ ks := by
  obtain ⟨D, ho, hs, hf⟩ := h
  obtain ⟨es', e', hp⟩ := ho.tidy (int_keyed hK)
  obtain ⟨es, clock, hb, F, _, hD⟩ := ho
  have he : es' = (es.toList.map (rg P K rawR)).foldr DataW.insert [] := by
    have := e'.symm.trans hD
    injection this
  have hmem : ∀ p ∈ es', ∃ k, p.1 = litI k := by
    intro p hp
    rw [he] at hp
    obtain ⟨x, hx, rfl⟩ := List.mem_map.1 (mem_sorted.1 hp)
    obtain ⟨y, hy⟩ := F.reads x hx
    obtain ⟨k, _, e, _⟩ := Maps.keyOf_int_inv hK (WideElems.rd_key hy)
    exact ⟨k, by rw [WideElems.rg_of hy]; exact e⟩
  subst e'
  refine ⟨es'.map (·.1), by simpa [Maps.size] using hs, ?_, ?_, ?_⟩
  · rw [List.pairwise_map]
    exact hp
  · intro x hx
    obtain ⟨p, hp, rfl⟩ := List.mem_map.1 hx
    obtain ⟨k, hk⟩ := hmem p hp
    refine ⟨k, hk, fun e => ?_⟩
    have hk2 := hf k
    rw [e] at hk2
    simp only at hk2
    have : Maps.has (DataW.map es') (litI k) = true := List.any_eq_true.2 ⟨p, hp, by rw [hk]; exact WideAt.sameKey_self (litI_key k)⟩
    rw [hk2] at this
    cases this
  · intro k hk
    have hk2 := hf k
    cases e : f k with
    | none => exact absurd e hk
    | some v =>
      rw [e] at hk2
      simp only at hk2
      obtain ⟨p, hp, hs⟩ := List.any_eq_true.1 hk2.1
      exact List.mem_map.2 ⟨p, hp, WideAt.sameKey_eq hs⟩

theorem mapF_len_le {b' n' : Nat} {f' : Int → Option Value} (h : MapF P K w b n f) (h' : MapF P K w' b' n' f') (hK : P.underlying K = some (.int .i64)) (e : ∀ k, f k ≠ none → f' k ≠ none) : n ≤ n' := by
  obtain ⟨ks, e1, p1, m1, _⟩ := h.keys hK
  obtain ⟨ks', e2, _, _, m2⟩ := h'.keys hK
  rw [← e1, ← e2]
  exact len_sub ks ks' p1 (fun x hx => by
    obtain ⟨k, rfl, hk⟩ := m1 x hx
    exact m2 k (e k hk))
end
end Go.Proofs.Ytifmhecjllpjpaa
