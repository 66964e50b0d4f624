import PyProof.Rows.All
import Wide.All
import OpenK.AllK
import Wide.FinOn
import HandS.ForMost
import HandS.Wide
import HandS.Exc
import HandS.ExcOwn
import HandS.TryOnly
import HandS.IsInst
import HandS.CallSlots
import KE.DataMinMax
import HandS.Style
import HandS.WordsExc
import HandS.EndBits
import HandS.Conv
import HandS.Dict
import HandS.TupAny
import HandS.RaiseMore
import HandS.ExcInit
import HandS.ExcField
import HandS.TryMany
import HandS.FStr
import PyProof.FString2
import HandS.Defaults
import HandS.WordsDict
import HandS.Flow
import HandS.Gcd
import HandS.SortInts
import HandS.WideBits
import KE.SortData
import PyProof.LongRange
import PyProof.ListRange
import HandS.More
import PyProof.Rows.SortShellAny
import HandS.Flt
import HandS.TupLe
import PySem.Challenge.RW_poleslips_k38_slack_of_great_numbers
set_option Elab.async false
set_option linter.all false
set_option maxRecDepth 100000
set_option maxHeartbeats 2000000
namespace Kt
open PySem PySem.Spec PyProof.Rows L2

/-! ## data as it lies in the tracked heap -/
def keyD : Key → PyData
  | .inl i => .int i
  | .inr x => .str x
mutual
inductive Rp (K : PySem.W.Frag) (H : Hp) : V → PyData → Prop
  | non : Rp K H .non .none
  | bl (b : Bool) : Rp K H (.bl b) (.bool b)
  | int (i : Int) : Rp K H (.int i) (.int i)
  | str (x : Str) : Rp K H (.str x) (.str x)
  | lst {a : Addr} {vs : List V} {ds : List PyData} (h : H a = some (.lst vs)) (r : RpAll K H vs ds) : Rp K H (.ref a) (.list ds)
  | tup {a : Addr} {vs : List V} {ds : List PyData} (h : SqT K H a vs) (r : RpAll K H vs ds) : Rp K H (.ref a) (.tuple ds)
  | dct {a : Addr} {kvs : List (Key × V)} {ps : List (PyData × PyData)} (h : H a = some (.dK kvs)) (r : RpKv K H kvs ps) : Rp K H (.ref a) (.dict ps)
inductive RpAll (K : PySem.W.Frag) (H : Hp) : List V → List PyData → Prop
  | nil : RpAll K H [] []
  | cons {v : V} {vs : List V} {d : PyData} {ds : List PyData} (h : Rp K H v d) (r : RpAll K H vs ds) : RpAll K H (v :: vs) (d :: ds)
inductive RpKv (K : PySem.W.Frag) (H : Hp) : List (Key × V) → List (PyData × PyData) → Prop
  | nil : RpKv K H [] []
  | cons {k : Key} {v : V} {kvs : List (Key × V)} {d : PyData} {ps : List (PyData × PyData)} (h : Rp K H v d) (r : RpKv K H kvs ps) : RpKv K H ((k, v) :: kvs) ((keyD k, d) :: ps)
end
section
variable {K : PySem.W.Frag} {H H' : Hp}
theorem sqT_mono (e : Same H H') {a : Addr} {xs : List V} (h : SqT K H a xs) : SqT K H' a xs := by
  rcases h with (h | ⟨o, h⟩) | h
  · exact .inl (.inl (e _ _ h))
  · exact .inl (.inr ⟨o, e _ _ h⟩)
  · exact .inr h
mutual
theorem Rp.mono (e : Same H H') : ∀ {d : PyData} {v : V}, Rp K H v d → Rp K H' v d
  | _, _, .non => .non
  | _, _, .bl b => .bl b
  | _, _, .int i => .int i
  | _, _, .str x => .str x
  | _, _, .lst h r => .lst (e _ _ h) (RpAll.mono e r)
  | _, _, .tup h r => .tup (sqT_mono e h) (RpAll.mono e r)
  | _, _, .dct h r => .dct (e _ _ h) (RpKv.mono e r)
theorem RpAll.mono (e : Same H H') : ∀ {ds : List PyData} {vs : List V}, RpAll K H vs ds → RpAll K H' vs ds
  | _, _, .nil => .nil
  | _, _, .cons h r => .cons (Rp.mono e h) (RpAll.mono e r)
theorem RpKv.mono (e : Same H H') : ∀ {ps : List (PyData × PyData)} {kvs : List (Key × V)}, RpKv K H kvs ps → RpKv K H' kvs ps
  | _, _, .nil => .nil
  | _, _, .cons h r => .cons (Rp.mono e h) (RpKv.mono e r)
end
theorem RpAll.len : ∀ {vs : List V} {ds : List PyData}, RpAll K H vs ds → vs.length = ds.length
  | _, _, .nil => rfl
  | _, _, .cons _ r => congrArg (· + 1) (RpAll.len r)
theorem RpAll.get : ∀ {vs : List V} {ds : List PyData} {i : Nat} {d : PyData}, RpAll K H vs ds → ds[i]? = some d → ∃ v, vs[i]? = some v ∧ Rp K H v d
  | _, _, i, _, .nil, e => by simp at e
  | _, _, 0, _, .cons h _, e => ⟨_, rfl, by cases e; exact h⟩
  | _, _, i + 1, _, .cons _ r, e => by
    obtain ⟨v, h1, h2⟩ := RpAll.get (i := i) r (by simpa using e)
    exact ⟨v, by simpa using h1, h2⟩
theorem RpAll.getV : ∀ {vs : List V} {ds : List PyData} {i : Nat} {v : V}, RpAll K H vs ds → vs[i]? = some v → ∃ d, ds[i]? = some d ∧ Rp K H v d
  | _, _, i, _, .nil, e => by simp at e
  | _, _, 0, _, .cons h _, e => ⟨_, rfl, by cases e; exact h⟩
  | _, _, i + 1, _, .cons _ r, e => by
    obtain ⟨v, h1, h2⟩ := RpAll.getV (i := i) r (by simpa using e)
    exact ⟨v, by simpa using h1, h2⟩
theorem RpAll.append : ∀ {vs ws : List V} {ds es : List PyData}, RpAll K H vs ds → RpAll K H ws es → RpAll K H (vs ++ ws) (ds ++ es)
  | _, _, _, _, .nil, s => s
  | _, _, _, _, .cons h r, s => .cons h (RpAll.append r s)
theorem RpAll.one {v : V} {d : PyData} (h : Rp K H v d) : RpAll K H [v] [d] := .cons h .nil
theorem RpAll.set : ∀ {vs : List V} {ds : List PyData} {v : V} {d : PyData} (i : Nat), RpAll K H vs ds → Rp K H v d → RpAll K H (vs.set i v) (ds.set i d)
  | _, _, _, _, _, .nil, _ => .nil
  | _, _, _, _, 0, .cons _ r, h => .cons h r
  | _, _, _, _, i + 1, .cons q r, h => .cons q (RpAll.set i r h)
theorem RpAll.take : ∀ {vs : List V} {ds : List PyData} (n : Nat), RpAll K H vs ds → RpAll K H (vs.take n) (ds.take n)
  | _, _, 0, _ => .nil
  | _, _, _ + 1, .nil => .nil
  | _, _, n + 1, .cons h r => .cons h (RpAll.take n r)
theorem RpAll.drop : ∀ {vs : List V} {ds : List PyData} (n : Nat), RpAll K H vs ds → RpAll K H (vs.drop n) (ds.drop n)
  | _, _, 0, r => r
  | _, _, _ + 1, .nil => .nil
  | _, _, n + 1, .cons _ r => RpAll.drop n r
theorem RpAll.ints {H : Hp} : ∀ {vs : List V} {ns : List Int}, RpAll K H vs (ns.map PyData.int) → vs = ns.map V.int
  | [], [], _ => rfl
  | _ :: _, n :: ns, .cons h r => by
    cases h
    rw [RpAll.ints r] <;> rfl
theorem RpAll.ofInts {H : Hp} : ∀ ns : List Int, RpAll K H (ns.map V.int) (ns.map PyData.int)
  | [] => .nil
  | n :: ns => .cons (.int n) (RpAll.ofInts ns)
end

/-! ## cells, the lists that a def may change, the state -/
inductive Cell where
  | d (x : PyData)
  | r (n : Nat)
  | s (ns : List Int)
  | t (x : PyData) (n : Nat)
  | a (l : Addr)
inductive MC where
  | live (xs : List PyData)
  | fz (xs : List PyData)
  | dc (ps : List (Int × PyData))
abbrev Mem := List MC
abbrev Rho := List (Option Cell)

def McOk (K : PySem.W.Frag) (B H : Hp) (l : Addr) : MC → Prop
  | .live xs => B l = none ∧ ∃ ws, H l = some (.lst ws) ∧ RpAll K B ws xs
  | .fz xs => ∃ ws, B l = some (.lst ws) ∧ RpAll K B ws xs
  | .dc ps => B l = none ∧ ∃ kvs, H l = some (.dK kvs) ∧ RpKv K B kvs (ps.map fun p => (PyData.int p.1, p.2))
structure Sat (K : PySem.W.Frag) (M : Mem) (B : Hp) (as : List Addr) (H : Hp) : Prop where
  sub : Same B H
  mc : ∀ (n : Nat) (c : MC) (l : Addr), M[n]? = some c → as[n]? = some l → McOk K B H l c
  nd : as.Nodup
  len : as.length = M.length
  free : ∀ l ∈ as, H l ≠ none
def CellOk (K : PySem.W.Frag) (B : Hp) (as : List Addr) (v : V) : Cell → Prop
  | .d x => Rp K B v x
  | .r n => ∃ l, as[n]? = some l ∧ v = .ref l
  | .s ns => ∃ a, v = .ref a ∧ SqL K B a (ns.map V.int)
  | .t x n => ∃ a u l, v = .ref a ∧ SqT K B a [u, .ref l] ∧ Rp K B u x ∧ as[n]? = some l
  | .a l => v = .ref l
inductive CellsOk (K : PySem.W.Frag) (B : Hp) (as : List Addr) : List V → List Cell → Prop
  | nil : CellsOk K B as [] []
  | cons {v : V} {vs : List V} {c : Cell} {cs : List Cell} (h : CellOk K B as v c) (r : CellsOk K B as vs cs) : CellsOk K B as (v :: vs) (c :: cs)
structure Slots (K : PySem.W.Frag) (B : Hp) (as : List Addr) (ρ : Rho) (σ : L2.St) : Prop where
  len : ρ.length = σ.length
  at_ : ∀ (i : Nat) (c : Cell), ρ[i]? = some (some c) → ∃ v, σ[i]? = some (some v) ∧ CellOk K B as v c
structure Gr (B : Hp) (as : List Addr) (H B' : Hp) (as' : List Addr) (H' : Hp) : Prop where
  b : Same B B'
  a : ∃ t, as' = as ++ t ∧ ∀ l ∈ t, H l = none
  h : ∀ l o, l ∉ as → H l = some o → H' l = some o
  n : ∀ l, B l = none → B' l ≠ none → H l = none ∨ l ∈ as
  k : ∀ l ∈ as, H' l ≠ none

section
variable {K : PySem.W.Frag} {M M' : Mem} {B B' B2 H H' H2 : Hp} {as as' as2 : List Addr}
theorem Gr.refl (k : ∀ l ∈ as, H l ≠ none) : Gr B as H B as H := ⟨Same.refl _, ⟨[], by simp, by simp⟩, fun _ _ _ h => h, fun _ h h' => absurd h h', k⟩
theorem Gr.trans (g : Gr B as H B' as' H') (g2 : Gr B' as' H' B2 as2 H2) : Gr B as H B2 as2 H2 := by
  obtain ⟨t, e, f⟩ := g.a
  obtain ⟨t2, e2, f2⟩ := g2.a
  have mem' : ∀ l, l ∈ as' → H l ≠ none → l ∈ as := fun l hl hn => by
    rw [e] at hl
    rcases List.mem_append.mp hl with q | q
    · exact q
    · exact absurd (f l q) hn
  refine ⟨g.b.trans g2.b, ⟨t ++ t2, by rw [e2, e, List.append_assoc], fun l hl => ?_⟩, fun l o hl ho => ?_, fun l h1 h2 => ?_, fun l hl => g2.k l (by rw [e]; exact List.mem_append_left _ hl)⟩
  · rcases List.mem_append.mp hl with q | q
    · exact f l q
    · cases hh : H l with
      | none => rfl
      | some o =>
        by_cases hm : l ∈ as
        · exact absurd (f2 l q) (g.k l hm)
        · have := g.h l o hm hh
          rw [f2 l q] at this
          cases this
  · exact g2.h l o (fun q => hl (mem' l q (by rw [ho]; exact nofun))) (g.h l o hl ho)
  · cases hh : H l with
    | none => exact .inl rfl
    | some o =>
      refine .inr ?_
      by_cases hb : B' l = none
      · rcases g2.n l hb h2 with q | q
        · by_cases hm : l ∈ as
          · exact hm
          · have := g.h l o hm hh
            rw [q] at this
            cases this
        · exact mem' l q (by rw [hh]; exact nofun)
      · rcases g.n l h1 hb with q | q
        · rw [hh] at q
          cases q
        · exact q
theorem Gr.pre (g : Gr B as H B' as' H') {n : Nat} {l : Addr} (h : as[n]? = some l) : as'[n]? = some l := by
  obtain ⟨t, e, _⟩ := g.a
  rw [e, List.getElem?_append_left (List.getElem?_eq_some_iff.mp h).1]
  exact h
theorem CellOk.mono (g : Gr B as H B' as' H') {v : V} {c : Cell} (h : CellOk K B as v c) : CellOk K B' as' v c := by
  cases c with
  | d x => exact Rp.mono g.b h
  | r n =>
    obtain ⟨l, h1, h2⟩ := h
    exact ⟨l, g.pre h1, h2⟩
  | s ns =>
    obtain ⟨a, h1, h2⟩ := h
    exact ⟨a, h1, g.b.seq h2⟩
  | t x n =>
    obtain ⟨a, u, l, h1, h2, h3, h4⟩ := h
    exact ⟨a, u, l, h1, sqT_mono g.b h2, Rp.mono g.b h3, g.pre h4⟩
  | a l => exact h
theorem CellsOk.mono (g : Gr B as H B' as' H') : ∀ {vs : List V} {cs : List Cell}, CellsOk K B as vs cs → CellsOk K B' as' vs cs
  | _, _, .nil => .nil
  | _, _, .cons h r => .cons (h.mono g) (CellsOk.mono g r)
theorem Slots.mono (g : Gr B as H B' as' H') {ρ : Rho} {σ : L2.St} (h : Slots K B as ρ σ) : Slots K B' as' ρ σ :=
  ⟨h.len, fun i c e => let ⟨v, h1, h2⟩ := h.at_ i c e; ⟨v, h1, h2.mono g⟩⟩
theorem Slots.set {ρ : Rho} {σ : L2.St} (h : Slots K B as ρ σ) {i : Nat} {v : V} {c : Cell} (hv : CellOk K B as v c) : Slots K B as (ρ.set i (some c)) (σ.set i (some v)) := by
  refine ⟨by rw [List.length_set, List.length_set]; exact h.len, fun j c' e => ?_⟩
  by_cases hj : i = j
  · subst hj
    have hi : i < ρ.length := by
      have := (List.getElem?_eq_some_iff.mp e).1
      rwa [List.length_set] at this
    rw [List.getElem?_set_self hi] at e
    cases e
    exact ⟨v, List.getElem?_set_self (by rw [← h.len]; exact hi), hv⟩
  · rw [List.getElem?_set_ne hj] at e
    rw [List.getElem?_set_ne hj]
    exact h.at_ j c' e
theorem Sat.gr (S : Sat K M B as H) : Gr B as H B as H := Gr.refl S.free
/-- a new object of data -/
theorem Sat.new (S : Sat K M B as H) {p : Addr} {o : HO} (np : H p = none) : Sat K M (upd B p o) as (upd H p o) ∧ Gr B as H (upd B p o) as (upd H p o) := by
  have hB : B p = none := by
    cases q : B p with
    | none => rfl
    | some u =>
      have := S.sub p u q
      rw [np] at this
      cases this
  have sb : Same B (upd B p o) := fun b x e => by
    rw [upd_ne (ne_of_none e hB)]
    exact e
  have pa : p ∉ as := fun h => S.free p h np
  refine ⟨⟨fun b x e => ?_, fun n c l h1 h2 => ?_, S.nd, S.len, fun l hl => ?_⟩, ⟨sb, ⟨[], by simp, by simp⟩, fun l x _ e => ?_, fun l h1 h2 => ?_, fun l hl => ?_⟩⟩
  · by_cases hb : b = p
    · subst hb
      rw [upd_same] at e ⊢
      exact e
    · rw [upd_ne hb] at e ⊢
      exact S.sub b x e
  · have hlp : l ≠ p := fun e => pa (by rw [← e]; exact List.mem_of_getElem? h2)
    have := S.mc n c l h1 h2
    cases c with
    | live xs =>
      obtain ⟨q1, ws, q2, q3⟩ := this
      exact ⟨by rw [upd_ne hlp]; exact q1, ws, by rw [upd_ne hlp]; exact q2, q3.mono sb⟩
    | dc ps =>
      obtain ⟨q1, ws, q2, q3⟩ := this
      exact ⟨by rw [upd_ne hlp]; exact q1, ws, by rw [upd_ne hlp]; exact q2, RpKv.mono sb q3⟩
    | fz xs =>
      obtain ⟨ws, q2, q3⟩ := this
      exact ⟨ws, sb _ _ q2, q3.mono sb⟩
  · have hlp : l ≠ p := fun e => pa (by rw [← e]; exact hl)
    rw [upd_ne hlp]
    exact S.free l hl
  · rw [upd_ne (ne_of_none e np)]
    exact e
  · by_cases hb : l = p
    · subst hb
      exact .inl np
    · rw [upd_ne hb] at h2
      exact absurd h1 h2
  · have hlp : l ≠ p := fun e => pa (by rw [← e]; exact hl)
    rw [upd_ne hlp]
    exact S.free l hl
/-- a new list of one's own -/
theorem Sat.newL (S : Sat K M B as H) {p : Addr} {ws : List V} {ds : List PyData} (np : H p = none) (r : RpAll K B ws ds) :
    Sat K (M ++ [.live ds]) B (as ++ [p]) (upd H p (.lst ws)) ∧ Gr B as H B (as ++ [p]) (upd H p (.lst ws)) ∧ (as ++ [p])[M.length]? = some p := by
  have hB : B p = none := by
    cases q : B p with
    | none => rfl
    | some u =>
      have := S.sub p u q
      rw [np] at this
      cases this
  have pa : p ∉ as := fun h => S.free p h np
  have ga : (as ++ [p])[M.length]? = some p := by
    rw [← S.len, List.getElem?_append_right (Nat.le_refl _), Nat.sub_self]
    rfl
  refine ⟨⟨fun b x e => ?_, fun n c l h1 h2 => ?_, ?_, ?_, fun l hl => ?_⟩, ⟨Same.refl _, ⟨[p], rfl, fun l hl => ?_⟩, fun l x _ e => ?_, fun l h1 h2 => absurd h1 h2, fun l hl => ?_⟩, ga⟩
  · rw [upd_ne (ne_of_none e hB)]
    exact S.sub b x e
  · by_cases hn : n < M.length
    · rw [List.getElem?_append_left hn] at h1
      rw [List.getElem?_append_left (by rw [S.len]; exact hn)] at h2
      have hlp : l ≠ p := fun e => pa (by rw [← e]; exact List.mem_of_getElem? h2)
      have := S.mc n c l h1 h2
      cases c with
      | live xs =>
        obtain ⟨q1, us, q2, q3⟩ := this
        exact ⟨q1, us, by rw [upd_ne hlp]; exact q2, q3⟩
      | dc ps =>
        obtain ⟨q1, us, q2, q3⟩ := this
        exact ⟨q1, us, by rw [upd_ne hlp]; exact q2, q3⟩
      | fz xs => exact this
    · have hn2 : n = M.length := by
        have := (List.getElem?_eq_some_iff.mp h1).1
        rw [List.length_append, List.length_singleton] at this
        omega
      subst hn2
      rw [List.getElem?_append_right (Nat.le_refl _), Nat.sub_self] at h1
      rw [ga] at h2
      cases h1
      cases h2
      exact ⟨hB, ws, upd_same, r⟩
  · rw [List.nodup_append]
    exact ⟨S.nd, by simp, fun a ha b hb e => by
      rw [List.mem_singleton.mp hb] at e
      exact pa (e ▸ ha)⟩
  · rw [List.length_append, List.length_append, S.len]
    rfl
  · rcases List.mem_append.mp hl with q | q
    · rw [upd_ne (fun e : l = p => pa (by rw [← e]; exact q))]
      exact S.free l q
    · rw [List.mem_singleton.mp q, upd_same]
      exact nofun
  · rw [List.mem_singleton.mp hl]
    exact np
  · rw [upd_ne (ne_of_none e np)]
    exact e
  · rw [upd_ne (fun e : l = p => pa (by rw [← e]; exact hl))]
    exact S.free l hl
/-- one's own list is changed -/
theorem Sat.put (S : Sat K M B as H) {n : Nat} {l : Addr} {xs ds : List PyData} {ws : List V} (hM : M[n]? = some (.live xs)) (hl : as[n]? = some l) (r : RpAll K B ws ds) :
    Sat K (M.set n (.live ds)) B as (upd H l (.lst ws)) ∧ Gr B as H B as (upd H l (.lst ws)) := by
  have hm : l ∈ as := List.mem_of_getElem? hl
  obtain ⟨q1, us, q2, q3⟩ := S.mc n _ l hM hl
  have free : ∀ l' ∈ as, upd H l (.lst ws) l' ≠ none := fun l' hl' => by
    by_cases e : l' = l
    · rw [e, upd_same]
      exact nofun
    · rw [upd_ne e]
      exact S.free l' hl'
  refine ⟨⟨fun b x e => ?_, fun m c l' h1 h2 => ?_, S.nd, by rw [List.length_set]; exact S.len, free⟩, ⟨Same.refl _, ⟨[], by simp, by simp⟩, fun l' o h1 h2 => ?_, fun l' h1 h2 => absurd h1 h2, free⟩⟩
  · rw [upd_ne (ne_of_none e q1)]
    exact S.sub b x e
  · by_cases e : n = m
    · subst e
      rw [List.getElem?_set_self (List.getElem?_eq_some_iff.mp hM).1] at h1
      rw [hl] at h2
      cases h1
      cases h2
      exact ⟨q1, ws, upd_same, r⟩
    · rw [List.getElem?_set_ne e] at h1
      have hne : l' ≠ l := fun z => by
        subst z
        have i1 := List.getElem?_eq_some_iff.mp hl
        have i2 := List.getElem?_eq_some_iff.mp h2
        exact e ((List.getElem_inj S.nd).mp (i1.2.trans i2.2.symm))
      have := S.mc m c l' h1 h2
      cases c with
      | live xs' =>
        obtain ⟨p1, us', p2, p3⟩ := this
        exact ⟨p1, us', by rw [upd_ne hne]; exact p2, p3⟩
      | dc ps' =>
        obtain ⟨p1, us', p2, p3⟩ := this
        exact ⟨p1, us', by rw [upd_ne hne]; exact p2, p3⟩
      | fz xs' => exact this
  · rw [upd_ne (fun e : l' = l => h1 (by rw [e]; exact hm))]
    exact h2
/-- one's own list is data from now on -/
theorem Sat.freeze (S : Sat K M B as H) {n : Nat} {l : Addr} {xs : List PyData} (hM : M[n]? = some (.live xs)) (hl : as[n]? = some l) :
    ∃ B', Sat K (M.set n (.fz xs)) B' as H ∧ Gr B as H B' as H ∧ Rp K B' (.ref l) (.list xs) := by
  have hm : l ∈ as := List.mem_of_getElem? hl
  obtain ⟨q1, us, q2, q3⟩ := S.mc n _ l hM hl
  have sb : Same B (upd B l (.lst us)) := fun b x e => by
    rw [upd_ne (ne_of_none e q1)]
    exact e
  refine ⟨upd B l (.lst us), ⟨fun b x e => ?_, fun m c l' h1 h2 => ?_, S.nd, by rw [List.length_set]; exact S.len, S.free⟩, ⟨sb, ⟨[], by simp, by simp⟩, fun _ _ _ h => h, fun l' h1 h2 => ?_, S.free⟩, .lst upd_same (q3.mono sb)⟩
  · by_cases hb : b = l
    · subst hb
      rw [upd_same] at e
      cases e
      exact q2
    · rw [upd_ne hb] at e
      exact S.sub b x e
  · by_cases e : n = m
    · subst e
      rw [List.getElem?_set_self (List.getElem?_eq_some_iff.mp hM).1] at h1
      rw [hl] at h2
      cases h1
      cases h2
      exact ⟨us, upd_same, q3.mono sb⟩
    · rw [List.getElem?_set_ne e] at h1
      have hne : l' ≠ l := fun z => by
        subst z
        have i1 := List.getElem?_eq_some_iff.mp hl
        have i2 := List.getElem?_eq_some_iff.mp h2
        exact e ((List.getElem_inj S.nd).mp (i1.2.trans i2.2.symm))
      have := S.mc m c l' h1 h2
      cases c with
      | live xs' =>
        obtain ⟨p1, us', p2, p3⟩ := this
        exact ⟨by rw [upd_ne hne]; exact p1, us', p2, p3.mono sb⟩
      | dc ps' =>
        obtain ⟨p1, us', p2, p3⟩ := this
        exact ⟨by rw [upd_ne hne]; exact p1, us', p2, RpKv.mono sb p3⟩
      | fz xs' =>
        obtain ⟨us', p2, p3⟩ := this
        exact ⟨us', sb _ _ p2, p3.mono sb⟩
  · by_cases e : l' = l
    · exact .inr (by rw [e]; exact hm)
    · rw [upd_ne e] at h2
      exact absurd h1 h2
end

/-! ## what is wished, without a heap -/
/-- an exception: its class, its field -/
structure Xc where
  C : Addr
  f : Option (Str × PyData)
/-- the wish of what is raised: as the layer tells it, and without a heap -/
structure Wi where
  K : PySem.W.Frag
  W : WX
  Wh : Xc → Rho → Mem → Prop
def XcOk (K : PySem.W.Frag) (B H : Hp) (d : Option Addr) : Option (Str × PyData) → Prop
  | none => d = none
  | some (n, y) => ∃ dd v, d = some dd ∧ H dd = some (.xd [(n, v)]) ∧ Rp K B v y
structure ExOk (Z : Wi) (B : Hp) (as : List Addr) (H : Hp) : Prop where
  ex : ∀ x ρ M B' as' σ H' d, Z.Wh x ρ M → Gr B as H B' as' H' → Sat Z.K M B' as' H' → Slots Z.K B' as' ρ σ → XcOk Z.K B' H' d x.f → Z.W (.ref x.C) d σ H'
theorem ExOk.on {Z : Wi} {B B' H H' : Hp} {as as' : List Addr} (e : ExOk Z B as H) (g : Gr B as H B' as' H') : ExOk Z B' as' H' := ⟨fun x ρ M B2 as2 σ H2 d h g2 => e.ex x ρ M B2 as2 σ H2 d h (g.trans g2)⟩

abbrev Qx := Cell → Mem → Prop
abbrev Px := Rho → Mem → Qx → Prop
abbrev Qa := List Cell → Mem → Prop
abbrev Pa := Rho → Mem → Qa → Prop
abbrev Qt := Bool → Mem → Prop
abbrev Pt := Rho → Mem → Qt → Prop
structure En where
  nx : Rho → Mem → Prop
  rt : Qx
  bk : Rho → Mem → Prop := fun _ _ => False
  ct : Rho → Mem → Prop := fun _ _ => False
abbrev Ps := En → Rho → Mem → Prop

def Sim (Z : Wi) (te : TE) (p : Px) : Prop := ∀ ρ M Qh, p ρ M Qh → ∀ B as σ H (Q : VK), Sat Z.K M B as H → Slots Z.K B as ρ σ → ExOk Z B as H →
  (∀ c M' v B' as' H', Qh c M' → Gr B as H B' as' H' → Sat Z.K M' B' as' H' → CellOk Z.K B' as' v c → Q v H') → te σ H Q
def SimA (Z : Wi) (ta : TA) (p : Pa) : Prop := ∀ ρ M Qh, p ρ M Qh → ∀ B as σ H (Q : List V → Hp → Prop), Sat Z.K M B as H → Slots Z.K B as ρ σ → ExOk Z B as H →
  (∀ cs M' vs B' as' H', Qh cs M' → Gr B as H B' as' H' → Sat Z.K M' B' as' H' → CellsOk Z.K B' as' vs cs → Q vs H') → ta σ H Q
def SimT (Z : Wi) (tt : TT) (p : Pt) : Prop := ∀ ρ M Qh, p ρ M Qh → ∀ B as σ H (Q : Bool → Hp → Prop), Sat Z.K M B as H → Slots Z.K B as ρ σ → ExOk Z B as H →
  (∀ b M' B' as' H', Qh b M' → Gr B as H B' as' H' → Sat Z.K M' B' as' H' → Q b H') → tt σ H Q
structure EnOk (K : PySem.W.Frag) (Dh : En) (B : Hp) (as : List Addr) (H : Hp) (D : Ends) : Prop where
  nx : ∀ ρ M B' as' σ H', Dh.nx ρ M → Gr B as H B' as' H' → Sat K M B' as' H' → Slots K B' as' ρ σ → D.nx σ H'
  rt : ∀ c M B' as' v H', Dh.rt c M → Gr B as H B' as' H' → Sat K M B' as' H' → CellOk K B' as' v c → D.rt v H'
  bk : ∀ ρ M B' as' σ H', Dh.bk ρ M → Gr B as H B' as' H' → Sat K M B' as' H' → Slots K B' as' ρ σ → D.bk σ H'
  ct : ∀ ρ M B' as' σ H', Dh.ct ρ M → Gr B as H B' as' H' → Sat K M B' as' H' → Slots K B' as' ρ σ → D.ct σ H'
def SimS (Z : Wi) (ts : TS) (p : Ps) : Prop := ∀ Dh ρ M, p Dh ρ M → ∀ B as σ H D, Sat Z.K M B as H → Slots Z.K B as ρ σ → ExOk Z B as H → EnOk Z.K Dh B as H D → ts D σ H
theorem EnOk.on {K : PySem.W.Frag} {Dh : En} {B B' H H' : Hp} {as as' : List Addr} {D : Ends} (e : EnOk K Dh B as H D) (g : Gr B as H B' as' H') : EnOk K Dh B' as' H' D :=
  ⟨fun ρ M B2 as2 σ H2 h g2 => e.nx ρ M B2 as2 σ H2 h (g.trans g2), fun c M B2 as2 v H2 h g2 => e.rt c M B2 as2 v H2 h (g.trans g2), fun ρ M B2 as2 σ H2 h g2 => e.bk ρ M B2 as2 σ H2 h (g.trans g2),
    fun ρ M B2 as2 σ H2 h g2 => e.ct ρ M B2 as2 σ H2 h (g.trans g2)⟩

/-! a piece of the text and what it wishes -/
structure Cy extends Cx where
  W : WX
  Wh : Xc → Rho → Mem → Prop
instance : CoeOut Cy Cx := ⟨Cy.toCx⟩
abbrev Cy.z (X : Cy) : Wi := ⟨X.K, X.W, X.Wh⟩
structure YE (X : Cy) (e : Expr) (p : Px) : Prop where ex : ∃ t, PE X e t ∧ Sim X.z t p
structure YA (X : Cy) (es : List Expr) (p : Pa) : Prop where ex : ∃ t, PA X es t ∧ SimA X.z t p
structure YT (X : Cy) (e : Expr) (p : Pt) : Prop where ex : ∃ t, PT X e t ∧ SimT X.z t p
structure YW (X : Cy) (e : Expr) (p : Pt) : Prop where ex : ∃ t, PW X e t ∧ SimT X.z t p
structure YS (X : Cy) (st : Stmt) (p : Ps) : Prop where ex : ∃ t, PS X st t ∧ SimS X.z t p
structure YSs (X : Cy) (st : List Stmt) (p : Ps) : Prop where ex : ∃ t, PSs X st t ∧ SimS X.z t p
end Kt

set_option Elab.async false
set_option linter.all false
set_option maxRecDepth 100000
set_option maxHeartbeats 2000000
namespace Kt
open PySem PySem.Spec PyProof.Rows L2

/-- as FnOk, but where no repr is under way around the call -/
structure FnG (P : Program) (w : World) (K : PySem.W.Frag) (mg : Str → Option Value) (base : Heap) (ct : CXT) (k : Nat) (f : Addr) (fd : FuncData) (ps : List Str) (sp : Sp) : Prop where
  cnt : ∀ vs H Q E, sp vs H Q E → vs.length = ps.length
  go : ∀ (A : Around) (out : List Env) (s : Shared) (H : Hp) (ar : Args) (us : List Value) (vs : List V) (Q : VK) (E : XK), A.guards = some [] → Room k A → Env0 P w K mg base A out s H → BindsTo s fd ar (ps.zip us) → Vals vs us →
    sp vs H Q E → codeAny (model P w) A (.call (.ref f) ar) (CR ct out P w H s Q E) s
section
variable {P : Program} {w : World} {K : PySem.W.Frag} {mg : Str → Option Value} {base : Heap} {ct : CXT}
theorem FnG.up {j k : Nat} {f : Addr} {fd : FuncData} {ps : List Str} {sp : Sp} (F : FnG P w K mg base ct j f fd ps sp) (h : j ≤ k) : FnG P w K mg base ct k f fd ps sp :=
  ⟨F.cnt, fun A o s H ar us vs Q E hg hr => F.go A o s H ar us vs Q E hg (hr.mono h)⟩
theorem FnG.imp {k : Nat} {f : Addr} {fd : FuncData} {ps : List Str} {sp sp' : Sp} (F : FnG P w K mg base ct k f fd ps sp) (h : ∀ vs H Q E, sp' vs H Q E → sp vs H Q E) : FnG P w K mg base ct k f fd ps sp' :=
  ⟨fun vs H Q E q => F.cnt vs H Q E (h _ _ _ _ q), fun A o s H ar us vs Q E hg hr he hb hv hs => F.go A o s H ar us vs Q E hg hr he hb hv (h _ _ _ _ hs)⟩

/-- a def of the text, by its body -/
theorem fnG_of {x qual : Str} {st : Stmt} {f : Addr} {fd : FuncData} {N ps : List Str} {k : Nat} {sp : Sp} (F : Fun K x qual st f fd) (S : FnScope N ps (defScope st)) (cnt : ∀ vs H Q E, sp vs H Q E → vs.length = ps.length)
    (body : ∀ (cdv : Value) (A : Around) (out : List Env) (s : Shared) (H : Hp) (vs : List V) (Q : VK) (E : XK), A.guards = some [] → Room k (A.deeper (envOfC qual (defScope st) s.heap.objs.size f cdv)) → sp vs H Q E →
      ∃ t, PSs (cxOf ct P w K mg base N qual (defScope st) f cdv A out s H E) (defBody st) t ∧ t { nx := fun _ H' => Q .non H', rt := Q } (start N vs) H) : FnG P w K mg base ct (k + 1) f fd ps sp := by
  obtain ⟨oc, od, kV, doc, pm, an, cdv, ctx, osl, rfl, lk, hcd⟩ := F.ex
  refine ⟨cnt, fun A out s H ar us vs Q E hg hr e0 hb r hsp => ?_⟩
  have Ks : K.In s.heap := e0.mod.kin.keeps fun b o e => (e0.bs b o e).1
  have Ls : s.heap.NoLimit := e0.mod.nolimit.keeps fun b o e => (e0.bs b o e).1
  have hc := cnt vs H Q E hsp
  refine codeAny_call_function hr.depth (Ks f _ lk) rfl S.co S.gen rfl (PySem.W.codeRec_of Ks hcd) (hb _ _ _ _ ?_)
  refine wpAny_newFunctionEnv_cells S.kind (fun ⟨n, v⟩ hy => ?_) (fun env he s1 x => ?_)
  · exact (S.par n (List.of_mem_zip hy).1).imp id fun q => ⟨q, PySem.W.cellsFrom_some _ _ _ (.inl q)⟩
  · subst he
    refine ⟨Ls.keeps x.toInCall.keep, codeAny_func ?_⟩
    obtain ⟨t, ht, hq⟩ := body cdv A out s H vs Q E hg (hr.deeper _) hsp
    have I0 := inv_start (CX := ct) (P := P) (w := w) (K := K) (mg := mg) (base := base) (E := E) S hr.hd e0 hc r x
    refine wpAny_mono (ht.run [] s1 (start N vs) H _ I0 hq) (fun fl s' hs => ?_) fun e s' hs => hs
    cases fl with
    | ret u => obtain ⟨v, σ', H', J, rv, q⟩ := hs; exact (⟨v, H', J.os, J.bare, J.base, J.hok, rv, q⟩ : CE out P w H s Q u s')
    | next => obtain ⟨σ', H', J, q⟩ := hs; exact (⟨.non, H', J.os, J.bare, J.base, J.hok, rfl, q⟩ : CE out P w H s Q .none s')
    | brk => obtain ⟨_, _, _, q⟩ := hs; cases q
    | cont => obtain ⟨_, _, _, q⟩ := hs; cases q
end

section
variable {X : Cx} {ct : CXT} {k : Nat} {f : Addr} {fd : FuncData} {ps ks : List Str} {sp : Sp} {ds : List Value} {dvs : List V} {E : XK} {x : Str} {p pos : Pos} {e : Expr} {es : List Expr} {kws : List Keyword} {t tk : TA}
theorem runG {pins : List (Addr × Obj)} {σ : L2.St} {H : Hp} {s : Shared} {Q : VK} {us : List Value} {ar : Args} {vs : List V} (F : FnG X.prog X.w X.K X.mg X.base ct k f fd ps sp) (hg : X.A.guards = some []) (hr : Room k X.A) (hx : Passes ct X E)
    (I : Inv X pins σ H s) (hb : us.length = ps.length → BindsTo s fd ar (ps.zip us)) (r : Vals vs us) (h : sp vs H Q E) : wpAny (model X.prog X.w) X.A (call (.ref f) ar.pos ar.kw) (EP X pins σ Q) X.xe s := by
  refine wpAny_call (codeAny_mono (F.go X.A X.stack s H ar us vs Q E hg hr I.env0 (hb (by rw [← r.length]; exact F.cnt _ _ _ _ h)) r h) fun q s' hq => ?_)
  match q, hq with
  | .error e, hq => exact hx pins σ H s e s' I hq
  | .ok (.ret u), hq => exact I.after hq
  | .ok .next, hq => cases hq
  | .ok .brk, hq => cases hq
  | .ok .cont, hq => cases hq
/-- f(a, ..) -/
theorem pe_callG (F : FnG X.prog X.w X.K X.mg X.base ct k f fd ps sp) (hg : X.A.guards = some []) (hr : Room k X.A) (gl : Gl X x) (hm : X.mg x = some (.ref f)) (hk : PySem.W.keepIn X.K (.ref f) = true) (hb : Binds X.K fd ps ds) (hd : Vals dvs ds) (hx : Passes ct X E)
    (ha : PA X (e :: es) t) (hdb : (x == ("__debug__" : Str)) = false := by decide) (he : starEach (e :: es) X.env = (false, eval e X.env) :: starEach es X.env := by rfl) (hpl : (backTo pos (starEach es X.env)).any (·.1) = false := by rfl) :
    PE X (.Call (.Name x p) (e :: es) [] pos) (tCall sp dvs E t) :=
  ⟨fun pins s σ H Q I h => wpAny_Call_Name_kw (ld_glob I gl hm (PySem.W.callWith_K (h₀ := X.base) I.ok.mod.kin hk (thn (ha.run pos pins s σ H _ I h) fun us s1 ⟨vs, H1, I1, r, q⟩ =>
    ⟨I1.kIn, runG (ar := ⟨us, []⟩) (us := us ++ ds) F hg hr hx I1 (fun hl => hb s1 us I1.kIn hl) (r.append hd) q⟩) he hpl) hdb)⟩
/-- f() -/
theorem pe_callG0 (F : FnG X.prog X.w X.K X.mg X.base ct k f fd ps sp) (hg : X.A.guards = some []) (hr : Room k X.A) (gl : Gl X x) (hm : X.mg x = some (.ref f)) (hk : PySem.W.keepIn X.K (.ref f) = true) (hb : Binds X.K fd ps ds) (hd : Vals dvs ds) (hx : Passes ct X E)
    (hdb : (x == ("__debug__" : Str)) = false := by decide) : PE X (.Call (.Name x p) [] [] pos) (tCall sp dvs E tNil) :=
  ⟨fun pins s σ H Q I h => wpAny_Call_Name_kw (ld_glob I gl hm (PySem.W.callWith_K0 I.kIn hk (runG (ar := ⟨[], []⟩) (us := [] ++ ds) F hg hr hx I (fun hl => hb s [] I.kIn hl) (by exact hd) h)) hdb)⟩

variable {g : List Value → List Value → List Value} {gV : List V → List V → List V}
theorem pe_callGK (F : FnG X.prog X.w X.K X.mg X.base ct k f fd ps sp) (hgu : X.A.guards = some []) (hr : Room k X.A) (gl : Gl X x) (hm : X.mg x = some (.ref f)) (hk : PySem.W.keepIn X.K (.ref f) = true) (hb : KBinds X.K fd ps ks g gV) (hx : Passes ct X E)
    (ha : PA X (e :: es) t) (hkw : PK X kws tk) (hall : (backToKw pos (keywordEach kws X.env)).all (·.1.isSome) = true := by rfl) (hks : (backToKw pos (keywordEach kws X.env)).filterMap (·.1) = ks := by rfl)
    (hdb : (x == ("__debug__" : Str)) = false := by decide) (he : starEach (e :: es) X.env = (false, eval e X.env) :: starEach es X.env := by rfl)
    (hpl : ((backTo pos (starEach (e :: es) X.env)).any (·.1) || (backToKw pos (keywordEach kws X.env)).any (·.1.isNone)) = false := by rfl) :
    PE X (.Call (.Name x p) (e :: es) kws pos) (tCallK sp gV E t tk) :=
  ⟨fun pins s σ H Q I h => wpAny_Call_Name_kw (ld_glob I gl hm (PySem.W.callWith_KW (h₀ := X.base) I.ok.mod.kin hk hall (thn (ha.run pos pins s σ H _ I h) fun us s1 ⟨vs, H1, I1, r, q⟩ =>
    thn (hkw.run pos pins s1 σ H1 _ I1 q) fun ws s2 ⟨zs, H2, I2, rz, q2⟩ => ⟨I2.kIn, by
      rw [hks]
      exact runG (ar := ⟨us, ks.zip ws⟩) F hgu hr hx I2 (fun hl => hb.to s2 us ws I2.kIn hl) (hb.rel r rz) q2⟩) hpl he) hdb)⟩
theorem pe_callGKk (F : FnG X.prog X.w X.K X.mg X.base ct k f fd ps sp) (hgu : X.A.guards = some []) (hr : Room k X.A) (gl : Gl X x) (hm : X.mg x = some (.ref f)) (hk : PySem.W.keepIn X.K (.ref f) = true) (hb : KBinds X.K fd ps ks g gV) (hx : Passes ct X E)
    (hkw : PK X kws tk) (hall : (backToKw pos (keywordEach kws X.env)).all (·.1.isSome) = true := by rfl) (hks : (backToKw pos (keywordEach kws X.env)).filterMap (·.1) = ks := by rfl)
    (hdb : (x == ("__debug__" : Str)) = false := by decide)
    (hpl : ((backTo pos (starEach [] X.env)).any (·.1) || (backToKw pos (keywordEach kws X.env)).any (·.1.isNone)) = false := by rfl) :
    PE X (.Call (.Name x p) [] kws pos) (tCallK sp gV E tNil tk) :=
  ⟨fun pins s σ H Q I h => wpAny_Call_Name_kw (ld_glob I gl hm (PySem.W.callWith_KW0 (h₀ := X.base) I.ok.mod.kin hk hall (thn (hkw.run pos pins s σ H _ I h) fun ws s2 ⟨zs, H2, I2, rz, q2⟩ => ⟨I2.kIn, by
      rw [hks]
      exact runG (ar := ⟨[], ks.zip ws⟩) F hgu hr hx I2 (fun hl => hb.to s2 [] ws I2.kIn hl) (hb.rel (vs := []) (us := []) .nil rz) q2⟩) hpl) hdb)⟩
end

/-! ## the end of a law's row -/
section
variable {P : Program} {w : World} {K : PySem.W.Frag} {mg mb : Str → Option Value} {ct : CXT} {k : Nat} {fa a : Addr} {fd : FuncData} {x : Str} {sp : Sp} {s : Shared} {vs : List Value} {ns : List Int}
abbrev scrO (vs : List Value) : Obj := { cls := .type "list", data := .seq vs.toArray }
/-- from a tracked heap in which nothing but the script may stand -/
theorem endG_core (Ks : K.In s.heap) (nsM : s.heap.Ns mainGlobals mg) (nsB : s.heap.Ns builtinsNs mb) (eB : ∀ y : Str, y ≠ "__name__" → mb y = bootBuiltins y) (noL : s.heap.NoLimit) (ge : s.gens = #[])
    (ob : s.heap.get? a = some (scrO vs)) (room : Room k callerA) (F : ∀ base : Heap, K.In base → base.Ns mainGlobals mg → FnG P w K mg base ct k fa fd [x] sp)
    (bnd : ∀ (t : Shared) (u : Value), BindsTo t fd ⟨[u], []⟩ [(x, u)]) (noX : ∀ H e t, ct [] H s (fun _ _ _ => False) e t → False)
    {H : Hp} (only : Only H) (hold : HOk P w H s.heap) (atA : ∀ b, H b ≠ none → b = a) (noK : H a ≠ none → K.lookup a = none) (wish : sp [.ref a] H (fun v _ => v = .bl true) fun _ _ _ => False) :
    codeAny (model P w) callerA (.call (.ref fa) ⟨[.ref a], []⟩) (fun r t => r = .ok (.ret (.bool true)) ∧ OldK s.heap t.heap ∧ t.os = s.os ∧ AllBare t.gens) s := by
  have plainFree : ∀ {b : Addr} {o : Obj}, s.heap.get? b = some o → (∀ n, o.data ≠ .seq vs.toArray n) → H b = none := fun {b o} e d => Classical.byContradiction fun z => by
    have eb := atA b z
    rw [eb, ob] at e
    exact d 0 (by rw [← Option.some.inj e])
  have keepN : ∀ {b : Addr} {m : Str → Option Value}, s.heap.Ns b m → (hidT s.heap H).Ns b m := fun {b m} ⟨o, es, ep, e, d, r⟩ => ⟨o, es, ep, hidT_get e (plainFree e fun n z => by rw [d] at z; cases z), d, r⟩
  have Kb : K.In (hidT s.heap H) := fun b o e => hidT_get (Ks b o e) (Classical.byContradiction fun z => by
    have eb := atA b z
    rw [eb] at e z
    rw [noK z] at e
    cases e)
  have md : Mod K mg (hidT s.heap H) := ⟨Kb, keepN nsM, ⟨mb, keepN nsB, eB⟩, by obtain ⟨mc, h1, h2⟩ := noL; exact ⟨mc, keepN h1, h2⟩⟩
  refine codeAny_mono ((F _ Kb (keepN nsM)).go callerA [] s H ⟨[.ref a], []⟩ [.ref a] [.ref a] _ _ rfl room
    ⟨rfl, md, fun b o e => of_hidT e, Nat.le_of_eq (hidT_size _ _), trivial, nofun, hold, .of_eq ge⟩ (bnd s (.ref a)) (.cons rfl .nil) wish) fun r t h => ?_
  match r, h with
  | .error e, h => exact (noX H e t h).elim
  | .ok .next, h => cases h
  | .ok .brk, h => cases h
  | .ok .cont, h => cases h
  | .ok (.ret u), h =>
    obtain ⟨v, H', os, bare, un, hold', rv, hv⟩ := h
    have hv' : v = .bl true := hv
    rw [hv'] at rv
    obtain rfl : u = Value.bool true := rv
    refine ⟨rfl, OldK.of_keep fun b o e => ?_, os, bare⟩
    cases q : H b with
    | none => exact un.keep b o e q nofun nofun
    | some u =>
      rcases only b with z | ⟨o1, ys, z⟩
      · rw [q] at z; cases z
      · obtain ⟨e1, _⟩ := hold b _ z
        obtain ⟨e2, _⟩ := hold' b _ (un.frzs b o1 _ z)
        rw [← Option.some.inj (e1.symm.trans e)]
        exact e2
theorem endG (Ks : K.In s.heap) (nsM : s.heap.Ns mainGlobals mg) (nsB : s.heap.Ns builtinsNs mb) (eB : ∀ y : Str, y ≠ "__name__" → mb y = bootBuiltins y) (noL : s.heap.NoLimit) (ge : s.gens = #[])
    (ob : s.heap.get? a = some (scrO vs)) (intz : IntsAre vs ns) (le : ns.length ≤ sizeLine) (room : Room k callerA) (F : ∀ base : Heap, K.In base → base.Ns mainGlobals mg → FnG P w K mg base ct k fa fd [x] sp)
    (bnd : ∀ (t : Shared) (u : Value), BindsTo t fd ⟨[u], []⟩ [(x, u)]) (noX : ∀ H e t, ct [] H s (fun _ _ _ => False) e t → False)
    (wish : ∀ H : Hp, Only H → SqL K H a (ns.map V.int) → sp [.ref a] H (fun v _ => v = .bl true) fun _ _ _ => False) :
    codeAny (model P w) callerA (.call (.ref fa) ⟨[.ref a], []⟩) (fun r t => r = .ok (.ret (.bool true)) ∧ OldK s.heap t.heap ∧ t.os = s.os ∧ AllBare t.gens) s := by
  have vn := vals_ints intz
  have ln := intz.length
  cases lk : K.lookup a with
  | some o =>
    have e := Ks a o lk
    rw [ob] at e
    have eo := Option.some.inj e
    subst eo
    have on : Only (fun _ => none) := fun _ => .inl rfl
    exact endG_core Ks nsM nsB eB noL ge ob room F bnd noX on (fun b u z => by cases z) (fun b z => (z rfl).elim) (fun z => (z rfl).elim)
      (wish _ on (.inr ⟨_, vs.toArray, _, lk, rfl, rfl, rfl, by rw [List.size_toArray, ln]; exact le, by simpa using vn⟩))
  | none =>
    have at1 : (fun b => if b = a then some (HO.frz (scrO vs) (.lst (ns.map V.int))) else none : Hp) a = some (.frz (scrO vs) (.lst (ns.map V.int))) := if_pos rfl
    have at0 : ∀ b, b ≠ a → (fun b => if b = a then some (HO.frz (scrO vs) (.lst (ns.map V.int))) else none : Hp) b = none := fun b hb => if_neg hb
    have on : Only (fun b => if b = a then some (.frz (scrO vs) (.lst (ns.map V.int))) else none) := fun b => (Classical.em (b = a)).elim (fun h => .inr ⟨scrO vs, ns.map V.int, if_pos h⟩) fun h => .inl (at0 b h)
    refine endG_core Ks nsM nsB eB noL ge ob room F bnd noX on (fun b u z => ?_) (fun b z => Classical.byContradiction fun h => z (at0 b h)) (fun _ => lk) (wish _ on (.inl (.inr ⟨_, at1⟩)))
    by_cases h : b = a
    · have zu := Option.some.inj ((if_pos h).symm.trans z)
      subst h
      subst zu
      exact ⟨ob, by rw [List.length_map]; exact le, vs, _, vn, ob⟩
    · cases (at0 b h).symm.trans z
end
theorem walk_G {l : PySem.W.OpenLaw} {n k : Nat} {q : Program} {loose : List Str} {XP : (Str → Option Value) → Heap → Prop} {YP : World → Heap → Prop} {d : DefRec} {K : Params → PySem.W.Frag} {ct : World → CXT} {sp : World → Sp} {x : Str}
    (hn : l.most = some n) (le : n ≤ sizeLine) (hdf : d.params.defaults = []) (room : Room k callerA) (hY : ∀ (w : World) (h : Heap), YP w h → (K w.params).In h)
    (F : ∀ (w : World) (mg : Str → Option Value) (fa : Addr) (h : Heap), (K w.params).In h → h.Ns mainGlobals mg → mg d.name = some (.ref fa) → ∃ fd : FuncData, (∀ (s : Shared) (u : Value), BindsTo s fd ⟨[u], []⟩ [(x, u)]) ∧
      ∀ base : Heap, (K w.params).In base → base.Ns mainGlobals mg → FnG l.prog w (K w.params) mg base (ct w) k fa fd [x] (sp w))
    (wish : ∀ (w : World) (H : Hp) (a : Addr) (ns : List Int), ns.length ≤ n → Only H → SqL (K w.params) H a (ns.map V.int) → sp w [.ref a] H (fun v _ => v = .bl true) fun _ _ _ => False)
    (noX : ∀ (w : World) (H : Hp) (s : Shared) (e : Value) (t : Shared), ct w [] H s (fun _ _ _ => False) e t → False) : PySem.W.WalkO q loose XP YP l.row.toRowW d [] (fun f vs => PySem.call f vs) := by
  refine Att.attach_call hn hdf fun w s0 s1 mg mb fa o pm cd doc a vs ns G Y ho hd hcd hmg ob intz cnt ge => ?_
  obtain ⟨fd, bnd, hF⟩ := F w mg fa _ (hY w _ Y) G.T.g hmg
  exact endG (hY w _ Y) G.T.g G.T.b G.T.builtins G.T.nolimit ge ob intz (Nat.le_trans cnt le) room hF bnd (fun H e t => noX w H s1 e t) fun H on h => wish w H a ns cnt on h
end Kt

set_option Elab.async false
set_option linter.all false
set_option maxRecDepth 100000
set_option maxHeartbeats 2000000
namespace Kt
open PySem PySem.Spec PyProof.Rows L2

/-! ## reading cells -/
def deref : Cell → Mem → Option PyData
  | .d x, _ => some x
  | .r n, M => match M[n]? with
    | some (.live xs) => some (.list xs)
    | some (.fz xs) => some (.list xs)
    | some (.dc ps) => some (.dict (ps.map fun p => (PyData.int p.1, p.2)))
    | none => none
  | .s _, _ => none
  | .t _ _, _ => none
  | .a _, _ => none
/-- the value as data from now on -/
def asD : Cell → Mem → Option (PyData × Mem)
  | .d x, M => some (x, M)
  | .r n, M => match M[n]? with
    | some (.live xs) => some (.list xs, M.set n (.fz xs))
    | some (.fz xs) => some (.list xs, M)
    | some (.dc _) => none
    | none => none
  | .s _, _ => none
  | .t _ _, _ => none
  | .a _, _ => none
def asDs : List Cell → Mem → Option (List PyData × Mem)
  | [], M => some ([], M)
  | c :: cs, M => match asD c M with
    | some (x, M1) => match asDs cs M1 with
      | some (xs, M2) => some (x :: xs, M2)
      | none => none
    | none => none

section
variable {K : PySem.W.Frag} {M M' : Mem} {B B' H H' : Hp} {as as' : List Addr} {c : Cell} {v : V} {x : PyData}
theorem deref_ok (S : Sat K M B as H) (h : CellOk K B as v c) (e : deref c M = some x) : Rp K H v x := by
  cases c with
  | d y =>
    cases e
    exact Rp.mono S.sub h
  | s ns => cases e
  | t _ _ => cases e
  | a _ => cases e
  | r n =>
    obtain ⟨l, hl, rfl⟩ := h
    unfold deref at e
    dsimp only at e
    split at e
    · rename_i xs hm
      cases e
      obtain ⟨_, ws, q2, q3⟩ := S.mc n _ l hm hl
      exact .lst q2 (q3.mono S.sub)
    · rename_i xs hm
      cases e
      obtain ⟨ws, q2, q3⟩ := S.mc n _ l hm hl
      exact .lst (S.sub _ _ q2) (q3.mono S.sub)
    · rename_i ps hm
      cases e
      obtain ⟨_, kvs, q2, q3⟩ := S.mc n _ l hm hl
      exact .dct q2 (RpKv.mono S.sub q3)
    · cases e
/-- the items of a list stand in what does not change -/
theorem deref_list {xs : List PyData} (S : Sat K M B as H) (h : CellOk K B as v c) (e : deref c M = some (.list xs)) : ∃ l ws, v = .ref l ∧ H l = some (.lst ws) ∧ RpAll K B ws xs := by
  cases c with
  | d y =>
    cases e
    cases (show Rp K B v (.list xs) from h) with
    | lst h5 r5 => exact ⟨_, _, rfl, S.sub _ _ h5, r5⟩
  | s ns => cases e
  | t _ _ => cases e
  | a _ => cases e
  | r n =>
    obtain ⟨l, hl, rfl⟩ := h
    unfold deref at e
    dsimp only at e
    split at e
    · rename_i xs hm
      cases e
      obtain ⟨_, ws, q2, q3⟩ := S.mc n _ l hm hl
      exact ⟨l, ws, rfl, q2, q3⟩
    · rename_i xs hm
      cases e
      obtain ⟨ws, q2, q3⟩ := S.mc n _ l hm hl
      exact ⟨l, ws, rfl, S.sub _ _ q2, q3⟩
    all_goals cases e
theorem deref_tuple {xs : List PyData} (S : Sat K M B as H) (h : CellOk K B as v c) (e : deref c M = some (.tuple xs)) : ∃ l ws, v = .ref l ∧ SqT K B l ws ∧ RpAll K B ws xs := by
  cases c with
  | d y =>
    cases e
    cases (show Rp K B v (.tuple xs) from h) with
    | tup h5 r5 => exact ⟨_, _, rfl, h5, r5⟩
  | s ns => cases e
  | t _ _ => cases e
  | a _ => cases e
  | r n =>
    unfold deref at e
    dsimp only at e
    split at e <;> cases e
theorem asD_ok (S : Sat K M B as H) (h : CellOk K B as v c) (e : asD c M = some (x, M')) : ∃ B', Sat K M' B' as H ∧ Gr B as H B' as H ∧ Rp K B' v x := by
  cases c with
  | d y =>
    cases e
    exact ⟨B, S, S.gr, h⟩
  | s ns => cases e
  | t _ _ => cases e
  | a _ => cases e
  | r n =>
    obtain ⟨l, hl, rfl⟩ := h
    unfold asD at e
    dsimp only at e
    split at e
    · rename_i xs hm
      cases e
      exact S.freeze hm hl
    · rename_i xs hm
      cases e
      obtain ⟨ws, q2, q3⟩ := S.mc n _ l hm hl
      exact ⟨B, S, S.gr, .lst q2 q3⟩
    all_goals cases e
theorem asDs_ok : ∀ {cs : List Cell} {vs : List V} {xs : List PyData} {M M' : Mem} {B : Hp}, Sat K M B as H → CellsOk K B as vs cs → asDs cs M = some (xs, M') → ∃ B', Sat K M' B' as H ∧ Gr B as H B' as H ∧ RpAll K B' vs xs
  | [], _, _, M, _, B, S, h, e => by
    cases h
    cases e
    exact ⟨B, S, S.gr, .nil⟩
  | c :: cs, _, _, M, _, B, S, h, e => by
    cases h with
    | cons h1 h2 =>
      unfold asDs at e
      split at e
      · rename_i x M1 e1
        obtain ⟨B1, S1, g1, r1⟩ := asD_ok S h1 e1
        split at e
        · rename_i xs M2 e2
          cases e
          obtain ⟨B2, S2, g2, r2⟩ := asDs_ok S1 (h2.mono g1) e2
          exact ⟨B2, S2, g1.trans g2, .cons (r1.mono g2.b) r2⟩
        · cases e
      · cases e
mutual
/-- as the library tells data -/
theorem Rp.dp : ∀ {d : PyData} {v : V}, Rp K H v d → d.canLay0 = true → Dp K H v d
  | _, _, .non, _ => .non
  | _, _, .bl b, _ => .bl b
  | _, _, .int i, _ => .int i
  | _, _, .str x, _ => .str x
  | _, _, .lst h r, c => .lst (.inl (.inl h)) (RpAll.dp r (by simpa [PyData.canLay0] using c))
  | _, _, .tup h r, c => .tup h (RpAll.dp r (by simpa [PyData.canLay0] using c))
  | _, _, .dct _ _, c => by simp [PyData.canLay0] at c
theorem RpAll.dp : ∀ {ds : List PyData} {vs : List V}, RpAll K H vs ds → PyData.canLayAll0 ds = true → DpAll K H vs ds
  | _, _, .nil, _ => .nil
  | _, _, .cons h r, c => by
    simp only [PyData.canLayAll0, Bool.and_eq_true] at c
    exact .cons (Rp.dp h c.1) (RpAll.dp r c.2)
end
end

/-! ## names, constants -/
def pVar (i : Nat) : Px := fun ρ M Q => match ρ[i]? with
  | some (some c) => Q c M
  | _ => False
def pC (x : PyData) : Px := fun _ M Q => Q (.d x) M
section
variable {X : Cy}
theorem sim_var {Z : Wi} (i : Nat) : Sim Z (tVar i) (pVar i) := fun ρ M Qh h B as σ H Q S L W0 q => by
  unfold pVar at h
  split at h
  · rename_i c e
    obtain ⟨v, h1, h2⟩ := L.at_ i c e
    exact ⟨v, h1, q c M v B as H h S.gr S h2⟩
  · cases h
theorem xv (i : Nat) {x : Str} {pos : Pos} (hN : X.N[i]? = some x := by rfl) (hv : Vis X.env.scope x := by first | exact Or.inl rfl | exact Or.inr (Or.inl rfl) | exact Or.inr (Or.inr rfl)) (hd : (x == ("__debug__" : Str)) = false := by decide)
    (hcd : (x == ("__classdict__" : Str)) = false := by decide) : YE X (.Name x pos) (pVar i) := ⟨_, pe_var hN hv hd hcd, sim_var i⟩
theorem sim_c {Z : Wi} {v : V} {x : PyData} (r : ∀ B, Rp Z.K B v x) : Sim Z (tC v) (pC x) := fun ρ M Qh h B as σ H Q S L W0 q => q _ M v B as H h S.gr S (r B)
theorem xint {i j pos} : YE X (.Constant (.int i) j pos) (pC (.int i)) := ⟨_, pe_int, sim_c fun _ => .int i⟩
theorem xbl {b j pos} : YE X (.Constant (.bool b) j pos) (pC (.bool b)) := ⟨_, pe_bl, sim_c fun _ => .bl b⟩
theorem xnon {j pos} : YE X (.Constant .none j pos) (pC .none) := ⟨_, pe_non, sim_c fun _ => .non⟩
theorem xstr {x j pos} : YE X (.Constant (.str x) j pos) (pC (.str x)) := ⟨_, pe_str, sim_c fun _ => .str x⟩
end

/-! ## operators -/
abbrev Pr2 := Cell → Cell → Mem → Qx → Prop
abbrev Pr1 := Cell → Mem → Qx → Prop
def SimR (K : PySem.W.Frag) (r : R2) (p : Pr2) : Prop := ∀ cx cy M Qh, p cx cy M Qh → ∀ B as x y H (Q : VK), Sat K M B as H → CellOk K B as x cx → CellOk K B as y cy →
  (∀ c M' v B' as' H', Qh c M' → Gr B as H B' as' H' → Sat K M' B' as' H' → CellOk K B' as' v c → Q v H') → r x y H Q
def SimU (K : PySem.W.Frag) (r : V → Hp → VK → Prop) (p : Pr1) : Prop := ∀ cx M Qh, p cx M Qh → ∀ B as x H (Q : VK), Sat K M B as H → CellOk K B as x cx →
  (∀ c M' v B' as' H', Qh c M' → Gr B as H B' as' H' → Sat K M' B' as' H' → CellOk K B' as' v c → Q v H') → r x H Q
def pBin (r : Pr2) (pa pb : Px) : Px := fun ρ M Q => pa ρ M fun x M1 => pb ρ M1 fun y M2 => r x y M2 Q
def pUn (r : Pr1) (pa : Px) : Px := fun ρ M Q => pa ρ M fun x M1 => r x M1 Q
structure YOp (X : Cy) (f : Value → Value → Sem Value) (p : Pr2) : Prop where ex : ∃ r, OpR X f r ∧ SimR X.K r p
structure YUn (X : Cy) (f : Value → Sem Value) (p : Pr1) : Prop where ex : ∃ r, UnR X f r ∧ SimU X.K r p
section
variable {K : PySem.W.Frag}
theorem sim_op {r : R2} {pr : Pr2} {ta tb : TE} {pa pb : Px} (hr : SimR Z.K r pr) (ha : Sim Z ta pa) (hb : Sim Z tb pb) : Sim Z (tOp r ta tb) (pBin pr pa pb) := fun ρ M Qh h B as σ H Q S L W0 q =>
  ha ρ M _ h B as σ H _ S L W0 fun c M1 v B1 as1 H1 h1 g1 S1 c1 => hb ρ M1 _ h1 B1 as1 σ H1 _ S1 (L.mono g1) (W0.on g1) fun c2 M2 v2 B2 as2 H2 h2 g2 S2 o2 =>
    hr c c2 M2 Qh h2 B2 as2 v v2 H2 Q S2 (c1.mono g2) o2 fun c3 M3 v3 B3 as3 H3 h3 g3 S3 o3 => q c3 M3 v3 B3 as3 H3 h3 ((g1.trans g2).trans g3) S3 o3
theorem sim_un {r : V → Hp → VK → Prop} {pr : Pr1} {ta : TE} {pa : Px} (hr : SimU Z.K r pr) (ha : Sim Z ta pa) : Sim Z (tUn r ta) (pUn pr pa) := fun ρ M Qh h B as σ H Q S L W0 q =>
  ha ρ M _ h B as σ H _ S L W0 fun c M1 v B1 as1 H1 h1 g1 S1 c1 => hr c M1 Qh h1 B1 as1 v H1 Q S1 c1 fun c3 M3 v3 B3 as3 H3 h3 g3 S3 o3 => q c3 M3 v3 B3 as3 H3 h3 (g1.trans g3) S3 o3
end
section
variable {X : Cy} {a b : Expr} {pa pb : Px} {pr : Pr2} {pu : Pr1} {pos : Pos}
theorem xop {op : Operator} (ho : YOp X (binaryOp op) pr) (ha : YE X a pa) (hb : YE X b pb) : YE X (.BinOp a op b pos) (pBin pr pa pb) := by
  obtain ⟨r, o, s⟩ := ho
  obtain ⟨ta, a1, a2⟩ := ha
  obtain ⟨tb, b1, b2⟩ := hb
  exact ⟨_, pe_op o a1 b1, sim_op s a2 b2⟩
theorem xun {op : UnaryOp} (ho : YUn X (unaryOp op) pu) (ha : YE X a pa) : YE X (.UnaryOp op a pos) (pUn pu pa) := by
  obtain ⟨r, o, s⟩ := ho
  obtain ⟨ta, a1, a2⟩ := ha
  exact ⟨_, pe_un o a1, sim_un s a2⟩
theorem xcmp {op : CmpOp} (ho : YOp X (compareOp op) pr) (ha : YE X a pa) (hb : YE X b pb) (hm : behindInMarks op b = false) : YE X (.Compare a [op] [b] pos) (pBin pr pa pb) := by
  obtain ⟨r, o, s⟩ := ho
  obtain ⟨ta, a1, a2⟩ := ha
  obtain ⟨tb, b1, b2⟩ := hb
  exact ⟨_, pe_cmpR o a1 b1 hm, sim_op s a2 b2⟩
end

/-! ### on whole numbers -/
def pII (C : Int → Int → Prop) (g : Int → Int → PyData) : Pr2 := fun x y M Q => match deref x M, deref y M with
  | some (.int i), some (.int j) => C i j ∧ Q (.d (g i j)) M
  | _, _ => False
def pII0 (g : Int → Int → PyData) : Pr2 := fun x y M Q => match deref x M, deref y M with
  | some (.int i), some (.int j) => Q (.d (g i j)) M
  | _, _ => False
def pI1 (g : Int → PyData) : Pr1 := fun x M Q => match deref x M with
  | some (.int i) => Q (.d (g i)) M
  | _ => False
section
variable {K : PySem.W.Frag}
theorem simR_I0 {g : Int → Int → V} {f : Int → Int → PyData} (r : ∀ B i j, Rp K B (g i j) (f i j)) : SimR K (rI0 g) (pII0 f) := fun cx cy M Qh h B as x y H Q S ox oy q => by
  unfold pII0 at h
  split at h
  · rename_i i j e1 e2
    cases deref_ok S ox e1
    cases deref_ok S oy e2
    exact ⟨i, j, rfl, rfl, q _ M _ B as H h S.gr S (r B i j)⟩
  · cases h
theorem simR_I {C C' : Int → Int → Prop} {g : Int → Int → V} {f : Int → Int → PyData} (r : ∀ B i j, C' i j → Rp K B (g i j) (f i j)) (hC : ∀ i j, C' i j → C i j) : SimR K (rI C g) (pII C' f) := fun cx cy M Qh h B as x y H Q S ox oy q => by
  unfold pII at h
  split at h
  · rename_i i j e1 e2
    cases deref_ok S ox e1
    cases deref_ok S oy e2
    exact ⟨i, j, rfl, rfl, hC i j h.1, q _ M _ B as H h.2 S.gr S (r B i j h.1)⟩
  · cases h
theorem simU_I {g : Int → V} {f : Int → PyData} (r : ∀ B i, Rp K B (g i) (f i)) : SimU K (rU g) (pI1 f) := fun cx M Qh h B as x H Q S ox q => by
  unfold pI1 at h
  split at h
  · rename_i i e1
    cases deref_ok S ox e1
    exact ⟨i, rfl, q _ M _ B as H h S.gr S (r B i)⟩
  · cases h
end
/-- + of numbers, texts, lists -/
def pAdd : Pr2 := fun x y M Q => match deref x M, deref y M with
  | some (.int i), some (.int j) => Q (.d (.int (i + j))) M
  | some (.list a), some (.list b) => a.length + b.length ≤ sizeLine ∧ Q (.r M.length) (M ++ [.live (a ++ b)])
  | some (.str a), some (.str b) => a.length + b.length ≤ sizeLine ∧ Q (.d (.str (a ++ b))) M
  | _, _ => False
section
variable {X : Cy}
theorem xo_add : YOp X (binaryOp .Add) pAdd := by
  refine ⟨fun x y H Q => rI0 (fun i j => .int (i + j)) x y H Q ∨ rCat x y H Q ∨ (∃ i j, x = .str i ∧ y = .str j ∧ i.length + j.length ≤ sizeLine ∧ Q (.str (i ++ j)) H), fun pins s σ H x y v u Q I rx ry h => ?_, fun cx cy M Qh h B as x y H Q S ox oy q => ?_⟩
  · rcases h with h | h | h
    · exact op_add pins s σ H x y v u Q I rx ry h
    · exact op_cat pins s σ H x y v u Q I rx ry h
    · exact op_add_str pins s σ H x y v u Q I rx ry h
  · unfold pAdd at h
    split at h
    · rename_i i j e1 e2
      cases deref_ok S ox e1
      cases deref_ok S oy e2
      exact .inl ⟨i, j, rfl, rfl, q _ M _ B as H h S.gr S (.int _)⟩
    · rename_i a b e1 e2
      obtain ⟨l1, w1, rfl, h1, r1⟩ := deref_list S ox e1
      obtain ⟨l2, w2, rfl, h2, r2⟩ := deref_list S oy e2
      refine .inr (.inl ⟨l1, l2, w1, w2, rfl, rfl, h1, h2, by rw [r1.len, r2.len]; exact h.1, fun p np => ?_⟩)
      obtain ⟨S', g', e⟩ := S.newL np (r1.append r2)
      exact q _ _ _ _ _ _ h.2 g' S' ⟨p, e, rfl⟩
    · rename_i a b e1 e2
      cases deref_ok S ox e1
      cases deref_ok S oy e2
      exact .inr (.inr ⟨a, b, rfl, rfl, h.1, q _ M _ B as H h.2 S.gr S (.str _)⟩)
    · cases h
theorem xo_sub : YOp X (binaryOp .Sub) (pII0 fun i j => .int (i - j)) := ⟨_, op_sub, simR_I0 fun _ _ _ => .int _⟩
/-- * of numbers, of a list and a number -/
def pMul : Pr2 := fun x y M Q => match deref x M, deref y M with
  | some (.int i), some (.int j) => CMulW i j ∧ Q (.d (.int (i * j))) M
  | some (.list a), some (.int k) => (-(2 ^ 63) ≤ k ∧ k < 2 ^ 63 ∧ a.length * k.toNat ≤ sizeLine) ∧ Q (.r M.length) (M ++ [.live (List.replicate k.toNat a).flatten])
  | _, _ => False
theorem xo_fdiv : YOp X (binaryOp .FloorDiv) (pII CDivW fun i j => .int (i / j)) := ⟨_, op_fdivW, simR_I (fun _ _ _ _ => .int _) fun _ _ h => h⟩
theorem xo_mod : YOp X (binaryOp .Mod) (pII (fun _ j => 0 < j) fun i j => .int (i % j)) := ⟨_, op_mod, simR_I (fun _ _ _ _ => .int _) fun _ _ h => h⟩
theorem xo_lt : YOp X (compareOp .Lt) (pII0 fun i j => .bool (decide (i < j))) := ⟨_, op_lt, simR_I0 fun _ _ _ => .bl _⟩
theorem xo_le : YOp X (compareOp .LtE) (pII0 fun i j => .bool (decide (i ≤ j))) := ⟨_, op_le, simR_I0 fun _ _ _ => .bl _⟩
theorem xo_gt : YOp X (compareOp .Gt) (pII0 fun i j => .bool (decide (j < i))) := ⟨_, op_gt, simR_I0 fun _ _ _ => .bl _⟩
theorem xo_ge : YOp X (compareOp .GtE) (pII0 fun i j => .bool (decide (j ≤ i))) := ⟨_, op_ge, simR_I0 fun _ _ _ => .bl _⟩
theorem xo_neg : YUn X (unaryOp .USub) (pI1 fun i => .int (-i)) := ⟨_, un_neg, simU_I fun _ _ => .int _⟩
end
/-- ** by a small written exponent -/
def CPowW (i j : Int) : Prop := 0 ≤ j ∧ (i.natAbs.log2 + 1 : Int) * j < 100000000
theorem pow_rule {M : Program} {w : World} {A : Around} {i j : Int} {t u : Tok} {s : Shared} {Q : Value → Shared → Prop} {E : Value → Shared → Prop} (hc : CPowW i j) (q : Q (.int (i ^ j.toNat) s.toks) { s with toks := s.toks + 1 }) :
    wpAny (model M w) A (binaryOp .Pow (.int i t) (.int j u)) Q E s := by
  refine pow_int hc.1 ?_ q
  have b : (Builtin.Int.intBits i : Int) ≤ i.natAbs.log2 + 1 := by
    unfold Builtin.Int.intBits
    split <;> omega
  have h1 := Int.mul_le_mul_of_nonneg_right b hc.1
  have h2 := hc.2
  have e : bitsLine = 134217728 := by decide
  omega
section
variable {X : Cy}
theorem op_powW : OpR X (binaryOp .Pow) (rI CPowW fun i j => .int (i ^ j.toNat)) := opI fun _ _ _ _ _ _ _ hc q => pow_rule hc q
theorem xo_pow : YOp X (binaryOp .Pow) (pII CPowW fun i j => .int (i ^ j.toNat)) := ⟨_, op_powW, simR_I (fun _ _ _ _ => .int _) fun _ _ h => h⟩
theorem xo_mul : YOp X (binaryOp .Mult) pMul := by
  refine ⟨fun x y H Q => rI CMulW (fun i j => .int (i * j)) x y H Q ∨ rRep x y H Q, fun pins s σ H x y v u Q I rx ry h => ?_, fun cx cy M Qh h B as x y H Q S ox oy q => ?_⟩
  · rcases h with h | h
    · exact op_mulW pins s σ H x y v u Q I rx ry h
    · exact op_rep pins s σ H x y v u Q I rx ry h
  · unfold pMul at h
    split at h
    · rename_i i j e1 e2
      cases deref_ok S ox e1
      cases deref_ok S oy e2
      exact .inl ⟨i, j, rfl, rfl, h.1, q _ M _ B as H h.2 S.gr S (.int _)⟩
    · rename_i a k e1 e2
      obtain ⟨l1, w1, rfl, h1, r1⟩ := deref_list S ox e1
      cases deref_ok S oy e2
      refine .inr ⟨l1, k, w1, rfl, rfl, h1, h.1.1, h.1.2.1, by rw [r1.len]; exact h.1.2.2, fun p np => ?_⟩
      have rr : ∀ n : Nat, RpAll X.K B (List.replicate n w1).flatten (List.replicate n a).flatten := fun n => by
        induction n with
        | zero => exact .nil
        | succ n ih =>
          rw [List.replicate_succ, List.replicate_succ, List.flatten_cons, List.flatten_cons]
          exact r1.append ih
      obtain ⟨S', g', e⟩ := S.newL np (rr k.toNat)
      exact q _ _ _ _ _ _ h.2 g' S' ⟨p, e, rfl⟩
    · cases h
/-! ### == and != of data -/
def derefS : Cell → Mem → Option PyData
  | .s ns, _ => some (.list (ns.map .int))
  | c, M => deref c M
def Shd (a b : PyData) : Prop := SeqAt.shaped a = true ∧ SeqAt.shaped b = true
def eqQ (a b : PyData) (k : Bool → Prop) : Prop := match a, b with
  | .str x, .str y => k (decide (x = y))
  | .int x, .int y => k (decide (x = y))
  | a, b => Shd a b ∧ k (PyData.eqv a b)
def pEq : Pr2 := fun x y M Q => match derefS x M, derefS y M with
  | some a, some b => eqQ a b fun k => Q (.d (.bool k)) M
  | _, _ => False
def pNe : Pr2 := fun x y M Q => match derefS x M, derefS y M with
  | some a, some b => eqQ a b fun k => Q (.d (.bool (!k))) M
  | _, _ => False
theorem derefS_ok {K : PySem.W.Frag} {M : Mem} {B H : Hp} {as : List Addr} {c : Cell} {v : V} {x : PyData} (S : Sat K M B as H) (h : CellOk K B as v c) (e : derefS c M = some x) (sh : SeqAt.shaped x = true) : Dp K H v x := by
  cases c with
  | s ns =>
    obtain ⟨a, rfl, hs⟩ := h
    cases e
    refine .lst (Same.seq S.sub hs) ?_
    clear hs sh
    induction ns with
    | nil => exact .nil
    | cons n ns ih => exact .cons (.int n) ih
  | t _ _ => cases e
  | a _ => cases e
  | d y => exact (deref_ok S h e).dp (SeqAt.canLay_of_shaped sh)
  | r n => exact (deref_ok S h e).dp (SeqAt.canLay_of_shaped sh)
theorem eqQ_ok {K : PySem.W.Frag} {M : Mem} {B H : Hp} {as : List Addr} {cx cy : Cell} {x y : V} {a b : PyData} {k : Bool → Prop} (S : Sat K M B as H) (ox : CellOk K B as x cx) (oy : CellOk K B as y cy) (e1 : derefS cx M = some a) (e2 : derefS cy M = some b) (h : eqQ a b k) :
    (∃ d e, Dp K H x d ∧ Dp K H y e ∧ SeqAt.shaped d = true ∧ SeqAt.shaped e = true ∧ k (PyData.eqv d e)) ∨ (scal x y = true ∧ k (decide (x = y))) := by
  have st : ∀ {c : Cell} {v : V} {t : Str}, CellOk K B as v c → derefS c M = some (.str t) → v = .str t := fun {c v t} o e => by
    cases c with
    | s ns => cases e
    | t _ _ => cases e
    | a _ => cases e
    | d z => cases (deref_ok S o e); rfl
    | r n => cases (deref_ok S o e); rfl
  unfold eqQ at h
  split at h
  · rename_i s t
    rw [st ox e1, st oy e2]
    refine .inr ⟨rfl, ?_⟩
    rwa [show decide (V.str s = V.str t) = decide (s = t) from by simp]
  · rename_i s t
    rw [show decide (s = t) = PyData.eqv (.int s) (.int t) from by simp only [PyData.eqv]; by_cases e : s = t <;> simp [e]] at h
    exact .inl ⟨_, _, derefS_ok S ox e1 rfl, derefS_ok S oy e2 rfl, rfl, rfl, h⟩
  · exact .inl ⟨a, b, derefS_ok S ox e1 h.1.1, derefS_ok S oy e2 h.1.2, h.1.1, h.1.2, h.2⟩
theorem xo_eq {k : Nat} (hr : Room k X.A) : YOp X (compareOp .Eq) pEq := by
  refine ⟨fun x y H Q => rEqD X.K x y H Q ∨ rEq x y H Q, fun pins s σ H x y v u Q I rx ry h => ?_, fun cx cy M Qh h B as x y H Q S ox oy q => ?_⟩
  · rcases h with h | h
    · exact op_eqD hr.units pins s σ H x y v u Q I rx ry h
    · exact op_eq pins s σ H x y v u Q I rx ry h
  · unfold pEq at h
    split at h
    · rename_i a b e1 e2
      rcases eqQ_ok S ox oy e1 e2 h with ⟨d, e, h1, h2, h3, h4, h5⟩ | ⟨h1, h2⟩
      · exact .inl ⟨d, e, h1, h2, h3, h4, q _ M _ B as H h5 S.gr S (.bl _)⟩
      · exact .inr ⟨h1, q _ M _ B as H h2 S.gr S (.bl _)⟩
    · cases h
theorem xo_ne {k : Nat} (hr : Room k X.A) : YOp X (compareOp .NotEq) pNe := by
  refine ⟨fun x y H Q => rNeD X.K x y H Q ∨ rNe x y H Q, fun pins s σ H x y v u Q I rx ry h => ?_, fun cx cy M Qh h B as x y H Q S ox oy q => ?_⟩
  · rcases h with h | h
    · exact op_neD hr.units pins s σ H x y v u Q I rx ry h
    · exact op_ne pins s σ H x y v u Q I rx ry h
  · unfold pNe at h
    split at h
    · rename_i a b e1 e2
      rcases eqQ_ok S ox oy e1 e2 h with ⟨d, e, h1, h2, h3, h4, h5⟩ | ⟨h1, h2⟩
      · exact .inl ⟨d, e, h1, h2, h3, h4, q _ M _ B as H h5 S.gr S (.bl _)⟩
      · exact .inr ⟨h1, q _ M _ B as H h2 S.gr S (.bl _)⟩
    · cases h
/-- is None -/
def pIsN (neg : Bool) : Pr2 := fun x y M Q => match x, y with
  | .d a, .d .none => Q (.d (.bool (match a with | .none => !neg | _ => neg))) M
  | .r _, .d .none => Q (.d (.bool neg)) M
  | _, _ => False
theorem xo_isN : YOp X (compareOp .Is) (pIsN false) := by
  refine ⟨_, op_isN, fun cx cy M Qh h B as x y H Q S ox oy q => ?_⟩
  unfold pIsN at h
  split at h
  · rename_i a
    cases (show Rp X.K B y .none from oy)
    refine ⟨rfl, q _ M _ B as H h S.gr S ?_⟩
    cases (show Rp X.K B x _ from ox) <;> exact .bl _
  · rename_i n
    cases (show Rp X.K B y .none from oy)
    obtain ⟨l, _, rfl⟩ := ox
    exact ⟨rfl, q _ M _ B as H h S.gr S (.bl _)⟩
  · cases h
theorem xo_notN : YOp X (compareOp .IsNot) (pIsN true) := by
  refine ⟨_, op_notN, fun cx cy M Qh h B as x y H Q S ox oy q => ?_⟩
  unfold pIsN at h
  split at h
  · rename_i a
    cases (show Rp X.K B y .none from oy)
    refine ⟨rfl, q _ M _ B as H h S.gr S ?_⟩
    cases (show Rp X.K B x _ from ox) <;> exact .bl _
  · rename_i n
    cases (show Rp X.K B y .none from oy)
    obtain ⟨l, _, rfl⟩ := ox
    exact ⟨rfl, q _ M _ B as H h S.gr S (.bl _)⟩
  · cases h
end

/-! ## tests -/
def pTst (pe : Px) : Pt := fun ρ M Q => pe ρ M fun c M1 => match c with
  | .d (.bool b) => Q b M1
  | _ => False
/-- any value as a test: numbers, None, lists (tuples, texts not yet) -/
def pTru (pe : Px) : Pt := fun ρ M Q => pe ρ M fun c M1 => match deref c M1 with
  | some (.bool b) => Q b M1
  | some (.int i) => Q (i != 0) M1
  | some .none => Q false M1
  | some (.list xs) => Q (!xs.isEmpty) M1
  | _ => False
def pAnd (p q : Pt) : Pt := fun ρ M Q => p ρ M fun b M1 => (b = true → q ρ M1 Q) ∧ (b = false → Q false M1)
def pOr (p q : Pt) : Pt := fun ρ M Q => p ρ M fun b M1 => (b = true → Q true M1) ∧ (b = false → q ρ M1 Q)
def pNot (p : Pt) : Pt := fun ρ M Q => p ρ M fun b M1 => Q (!b) M1
def pIfE (t : Pt) (pa pb : Px) : Px := fun ρ M Q => t ρ M fun b M1 => (b = true → pa ρ M1 Q) ∧ (b = false → pb ρ M1 Q)
def pAndV (pa pb : Px) : Px := fun ρ M Q => pa ρ M fun c M1 => match c with
  | .d (.bool b) => (b = true → pb ρ M1 Q) ∧ (b = false → Q (.d (.bool false)) M1)
  | _ => False
def pOrV (pa pb : Px) : Px := fun ρ M Q => pa ρ M fun c M1 => match c with
  | .d (.bool b) => (b = true → Q (.d (.bool true)) M1) ∧ (b = false → pb ρ M1 Q)
  | _ => False
def pNotV (pa : Px) : Px := fun ρ M Q => pa ρ M fun c M1 => match c with
  | .d (.bool b) => Q (.d (.bool (!b))) M1
  | _ => False
section
variable {K : PySem.W.Frag} {te ta tb : TE} {t u : TT} {pe pa pb : Px} {p p' : Pt}
theorem simT_tst (h : Sim Z te pe) : SimT Z (tB te) (pTst pe) := fun ρ M Qh hp B as σ H Q S L W0 q => h ρ M _ hp B as σ H _ S L W0 fun c M1 v B1 as1 H1 h1 g1 S1 o1 => by
  split at h1
  · rename_i b
    cases (show Rp Z.K B1 v (.bool b) from o1)
    exact ⟨b, rfl, q b M1 B1 as1 H1 h1 g1 S1⟩
  · cases h1
theorem simT_test (h : Sim Z te pe) : SimT Z (tTest te) (pTst pe) := fun ρ M Qh hp B as σ H Q S L W0 q => h ρ M _ hp B as σ H _ S L W0 fun c M1 v B1 as1 H1 h1 g1 S1 o1 => by
  split at h1
  · rename_i b
    cases (show Rp Z.K B1 v (.bool b) from o1)
    exact ⟨b, rfl, q b M1 B1 as1 H1 h1 g1 S1⟩
  · cases h1
theorem simT_and (h : SimT Z t p) (h' : SimT Z u p') : SimT Z (tAnd t u) (pAnd p p') := fun ρ M Qh hp B as σ H Q S L W0 q => h ρ M _ hp B as σ H _ S L W0 fun b M1 B1 as1 H1 h1 g1 S1 => by
  cases b with
  | true => exact h' ρ M1 Qh (h1.1 rfl) B1 as1 σ H1 Q S1 (L.mono g1) (W0.on g1) fun b2 M2 B2 as2 H2 h2 g2 S2 => q b2 M2 B2 as2 H2 h2 (g1.trans g2) S2
  | false => exact q false M1 B1 as1 H1 (h1.2 rfl) g1 S1
theorem simT_or (h : SimT Z t p) (h' : SimT Z u p') : SimT Z (tOr t u) (pOr p p') := fun ρ M Qh hp B as σ H Q S L W0 q => h ρ M _ hp B as σ H _ S L W0 fun b M1 B1 as1 H1 h1 g1 S1 => by
  cases b with
  | true => exact q true M1 B1 as1 H1 (h1.1 rfl) g1 S1
  | false => exact h' ρ M1 Qh (h1.2 rfl) B1 as1 σ H1 Q S1 (L.mono g1) (W0.on g1) fun b2 M2 B2 as2 H2 h2 g2 S2 => q b2 M2 B2 as2 H2 h2 (g1.trans g2) S2
theorem simT_not (h : SimT Z t p) : SimT Z (tNot t) (pNot p) := fun ρ M Qh hp B as σ H Q S L W0 q => h ρ M _ hp B as σ H _ S L W0 fun b M1 B1 as1 H1 h1 g1 S1 => q (!b) M1 B1 as1 H1 h1 g1 S1
theorem sim_if (h : SimT Z t p) (ha : Sim Z ta pa) (hb : Sim Z tb pb) : Sim Z (tIf t ta tb) (pIfE p pa pb) := fun ρ M Qh hp B as σ H Q S L W0 q => h ρ M _ hp B as σ H _ S L W0 fun b M1 B1 as1 H1 h1 g1 S1 => by
  cases b with
  | true => exact ha ρ M1 Qh (h1.1 rfl) B1 as1 σ H1 Q S1 (L.mono g1) (W0.on g1) fun c M2 v B2 as2 H2 h2 g2 S2 => q c M2 v B2 as2 H2 h2 (g1.trans g2) S2
  | false => exact hb ρ M1 Qh (h1.2 rfl) B1 as1 σ H1 Q S1 (L.mono g1) (W0.on g1) fun c M2 v B2 as2 H2 h2 g2 S2 => q c M2 v B2 as2 H2 h2 (g1.trans g2) S2
theorem sim_andV (ha : Sim Z ta pa) (hb : Sim Z tb pb) : Sim Z (tAndV ta tb) (pAndV pa pb) := fun ρ M Qh hp B as σ H Q S L W0 q => ha ρ M _ hp B as σ H _ S L W0 fun c M1 v B1 as1 H1 h1 g1 S1 o1 => by
  split at h1
  · rename_i b
    cases (show Rp Z.K B1 v (.bool b) from o1)
    refine ⟨b, rfl, ?_⟩
    cases b with
    | true => exact hb ρ M1 Qh (h1.1 rfl) B1 as1 σ H1 Q S1 (L.mono g1) (W0.on g1) fun c M2 v B2 as2 H2 h2 g2 S2 => q c M2 v B2 as2 H2 h2 (g1.trans g2) S2
    | false => exact q _ M1 _ B1 as1 H1 (h1.2 rfl) g1 S1 (.bl _)
  · cases h1
theorem sim_orV (ha : Sim Z ta pa) (hb : Sim Z tb pb) : Sim Z (tOrV ta tb) (pOrV pa pb) := fun ρ M Qh hp B as σ H Q S L W0 q => ha ρ M _ hp B as σ H _ S L W0 fun c M1 v B1 as1 H1 h1 g1 S1 o1 => by
  split at h1
  · rename_i b
    cases (show Rp Z.K B1 v (.bool b) from o1)
    refine ⟨b, rfl, ?_⟩
    cases b with
    | true => exact q _ M1 _ B1 as1 H1 (h1.1 rfl) g1 S1 (.bl _)
    | false => exact hb ρ M1 Qh (h1.2 rfl) B1 as1 σ H1 Q S1 (L.mono g1) (W0.on g1) fun c M2 v B2 as2 H2 h2 g2 S2 => q c M2 v B2 as2 H2 h2 (g1.trans g2) S2
  · cases h1
theorem sim_notV (ha : Sim Z ta pa) : Sim Z (tNotV ta) (pNotV pa) := fun ρ M Qh hp B as σ H Q S L W0 q => ha ρ M _ hp B as σ H _ S L W0 fun c M1 v B1 as1 H1 h1 g1 S1 o1 => by
  split at h1
  · rename_i b
    cases (show Rp Z.K B1 v (.bool b) from o1)
    exact ⟨b, rfl, q _ M1 _ B1 as1 H1 h1 g1 S1 (.bl _)⟩
  · cases h1
end
section
variable {X : Cy} {a b c : Expr} {pe pa pb : Px} {p p' : Pt} {rest : List Expr} {pos : Pos}
theorem xt_val (h : YE X a pe) (he : ∀ whole, isTrue a X.env whole = (do let v ← whole; standAt a.pos; holding [v] (truthy v)) := by intro _; rfl) : YT X a (pTst pe) := let ⟨_, h1, h2⟩ := h; ⟨_, pt_val h1 he, simT_tst h2⟩
theorem xt_cmp {op : CmpOp} {pr : Pr2} (ho : YOp X (compareOp op) pr) (ha : YE X a pa) (hb : YE X b pb) (hm : behindInMarks op b = false) : YT X (.Compare a [op] [b] pos) (pTst (pBin pr pa pb)) := by
  obtain ⟨r, o, s⟩ := ho
  obtain ⟨ta, a1, a2⟩ := ha
  obtain ⟨tb, b1, b2⟩ := hb
  exact ⟨_, pt_cmpR o a1 b1 hm, simT_test (sim_op s a2 b2)⟩
theorem xt_not (h : YT X a p) : YT X (.UnaryOp .Not a pos) (pNot p) := let ⟨_, h1, h2⟩ := h; ⟨_, pt_not h1, simT_not h2⟩
theorem xw_and (h : YT X a p) (h' : YW X (.BoolOp .And (b :: rest) pos) p') : YW X (.BoolOp .And (a :: b :: rest) pos) (pAnd p p') := let ⟨_, h1, h2⟩ := h; let ⟨_, h3, h4⟩ := h'; ⟨_, pw_and h1 h3, simT_and h2 h4⟩
theorem xw_and1 (h : YT X a p) : YW X (.BoolOp .And [a] pos) p := let ⟨_, h1, h2⟩ := h; ⟨_, pw_and1 h1, h2⟩
theorem xw_or (h : YT X a p) (h' : YW X (.BoolOp .Or (b :: rest) pos) p') : YW X (.BoolOp .Or (a :: b :: rest) pos) (pOr p p') := let ⟨_, h1, h2⟩ := h; let ⟨_, h3, h4⟩ := h'; ⟨_, pw_or h1 h3, simT_or h2 h4⟩
theorem xw_or1 (h : YT X a p) : YW X (.BoolOp .Or [a] pos) p := let ⟨_, h1, h2⟩ := h; ⟨_, pw_or1 h1, h2⟩
theorem YW.t (h : YW X a p) : YT X a p := let ⟨_, h1, h2⟩ := h; ⟨_, h1.pt, h2⟩
theorem xif (h : YT X c p) (ha : YE X a pa) (hb : YE X b pb) : YE X (.IfExp c a b pos) (pIfE p pa pb) := let ⟨_, h1, h2⟩ := h; let ⟨_, h3, h4⟩ := ha; let ⟨_, h5, h6⟩ := hb; ⟨_, pe_ifExp h1 h3 h5, sim_if h2 h4 h6⟩
theorem xand (ha : YE X a pa) (hb : YE X (.BoolOp .And (b :: rest) pos) pb) : YE X (.BoolOp .And (a :: b :: rest) pos) (pAndV pa pb) := let ⟨_, h1, h2⟩ := ha; let ⟨_, h3, h4⟩ := hb; ⟨_, pe_and h1 h3, sim_andV h2 h4⟩
theorem xor_ (ha : YE X a pa) (hb : YE X (.BoolOp .Or (b :: rest) pos) pb) : YE X (.BoolOp .Or (a :: b :: rest) pos) (pOrV pa pb) := let ⟨_, h1, h2⟩ := ha; let ⟨_, h3, h4⟩ := hb; ⟨_, pe_or h1 h3, sim_orV h2 h4⟩
theorem xone {op} (ha : YE X a pa) : YE X (.BoolOp op [a] pos) pa := let ⟨_, h1, h2⟩ := ha; ⟨_, pe_one h1, h2⟩
theorem xnot (ha : YE X a pa) : YE X (.UnaryOp .Not a pos) (pNotV pa) := let ⟨_, h1, h2⟩ := ha; ⟨_, pe_not h1, sim_notV h2⟩
end
end Kt

set_option Elab.async false
set_option linter.all false
set_option maxRecDepth 100000
set_option maxHeartbeats 2000000
namespace Kt
open PySem PySem.Spec PyProof.Rows L2

/-! ## argument lists, displays -/
def pNil : Pa := fun _ M Q => Q [] M
def pCons (p : Px) (r : Pa) : Pa := fun ρ M Q => p ρ M fun c M1 => r ρ M1 fun cs M2 => Q (c :: cs) M2
def pTup (pa : Pa) : Px := fun ρ M Q => pa ρ M fun cs M1 => match asDs cs M1 with
  | some (xs, M2) => xs.length ≤ sizeLine ∧ Q (.d (.tuple xs)) M2
  | none => False
def pLst (pa : Pa) : Px := fun ρ M Q => pa ρ M fun cs M1 => match asDs cs M1 with
  | some (xs, M2) => xs.length ≤ sizeLine ∧ Q (.r M2.length) (M2 ++ [.live xs])
  | none => False
section
variable {K : PySem.W.Frag} {te : TE} {ta tr : TA} {p : Px} {pa pr : Pa}
theorem simA_nil : SimA Z tNil pNil := fun ρ M Qh h B as σ H Q S L W0 q => q [] M [] B as H h S.gr S .nil
theorem simA_cons (h : Sim Z te p) (hr : SimA Z tr pr) : SimA Z (tCons te tr) (pCons p pr) := fun ρ M Qh hp B as σ H Q S L W0 q => h ρ M _ hp B as σ H _ S L W0 fun c M1 v B1 as1 H1 h1 g1 S1 o1 =>
  hr ρ M1 _ h1 B1 as1 σ H1 _ S1 (L.mono g1) (W0.on g1) fun cs M2 vs B2 as2 H2 h2 g2 S2 o2 => q (c :: cs) M2 (v :: vs) B2 as2 H2 h2 (g1.trans g2) S2 (.cons (o1.mono g2) o2)
theorem sim_tup (h : SimA Z ta pa) : Sim Z (tTup ta) (pTup pa) := fun ρ M Qh hp B as σ H Q S L W0 q => h ρ M _ hp B as σ H _ S L W0 fun cs M1 vs B1 as1 H1 h1 g1 S1 o1 => by
  split at h1
  · rename_i xs M2 e
    obtain ⟨B2, S2, g2, r2⟩ := asDs_ok S1 o1 e
    refine ⟨by rw [r2.len]; exact h1.1, fun a na => ?_⟩
    obtain ⟨S3, g3⟩ := S2.new (o := .tup vs) na
    exact q _ M2 _ _ _ _ h1.2 ((g1.trans g2).trans g3) S3 (.tup (.inl (.inl upd_same)) (r2.mono g3.b))
  · cases h1
theorem sim_lst (h : SimA Z ta pa) : Sim Z (tLst ta) (pLst pa) := fun ρ M Qh hp B as σ H Q S L W0 q => h ρ M _ hp B as σ H _ S L W0 fun cs M1 vs B1 as1 H1 h1 g1 S1 o1 => by
  split at h1
  · rename_i xs M2 e
    obtain ⟨B2, S2, g2, r2⟩ := asDs_ok S1 o1 e
    refine ⟨by rw [r2.len]; exact h1.1, fun a na => ?_⟩
    obtain ⟨S3, g3, e3⟩ := S2.newL na r2
    exact q _ _ _ _ _ _ h1.2 ((g1.trans g2).trans g3) S3 ⟨a, e3, rfl⟩
  · cases h1
end
section
variable {X : Cy} {e a b : Expr} {es : List Expr} {p pa pb : Px} {pr : Pa} {pos : Pos}
theorem xa_nil : YA X [] pNil := ⟨_, pa_nil, simA_nil⟩
theorem xa_cons (h : YE X e p) (hr : YA X es pr) (hs : starEach (e :: es) X.env = (false, eval e X.env) :: starEach es X.env := by rfl) : YA X (e :: es) (pCons p pr) := let ⟨_, h1, h2⟩ := h; let ⟨_, h3, h4⟩ := hr; ⟨_, pa_cons h1 h3 hs, simA_cons h2 h4⟩
theorem xtup {x1} (h : YA X es pr) : YE X (.Tuple es x1 pos) (pTup pr) := let ⟨_, h1, h2⟩ := h; ⟨_, pe_tup h1, sim_tup h2⟩
theorem xlst (h : YA X es pr) : YE X (.List es pos) (pLst pr) := let ⟨_, h1, h2⟩ := h; ⟨_, pe_lst h1, sim_lst h2⟩
end

/-! ## a[i] -/
def pIx : Pr2 := fun x y M Q => match y with
  | .d (.int i) => (match x with
    | .s ns => (match atI ns i with
      | some n => Q (.d (.int n)) M
      | none => False)
    | c => (match deref c M with
      | some (.list xs) => (match atI xs i with
        | some z => Q (.d z) M
        | none => False)
      | some (.tuple xs) => (match atI xs i with
        | some z => Q (.d z) M
        | none => False)
      | _ => False))
  | _ => False
theorem atI_rp {K : PySem.W.Frag} {H : Hp} {vs : List V} {xs : List PyData} {i : Int} {z : PyData} (r : RpAll K H vs xs) (e : atI xs i = some z) : ∃ v, atI vs i = some v ∧ Rp K H v z := by
  unfold atI at e ⊢
  rw [r.len]
  cases h : ixN xs.length i with
  | none => rw [h] at e; cases e
  | some j =>
    rw [h] at e
    obtain ⟨v, h1, h2⟩ := r.get (show xs[j]? = some z from e)
    exact ⟨v, h1, h2⟩
section
variable {X : Cy} {a b : Expr} {pa pb : Px} {pos : Pos}
theorem simR_ix {K : PySem.W.Frag} : SimR K (rIx K) pIx := fun cx cy M Qh h B as x y H Q S ox oy q => by
  unfold pIx at h
  split at h
  · rename_i i
    cases (show Rp K B y (.int i) from oy)
    split at h
    · rename_i ns
      obtain ⟨l, rfl, hl⟩ := ox
      split at h
      · rename_i n e
        refine .inl ⟨l, ns.map V.int, i, .int n, rfl, rfl, Same.seq S.sub hl, ?_, q _ M _ B as H h S.gr S (.int n)⟩
        unfold atI at e ⊢
        rw [List.length_map]
        cases hx : ixN ns.length i with
        | none => rw [hx] at e; cases e
        | some j =>
          rw [hx] at e
          show (ns.map V.int)[j]? = _
          rw [List.getElem?_map, show ns[j]? = some n from e] <;> rfl
      · cases h
    · split at h
      · rename_i xs e1
        obtain ⟨l, ws, rfl, hl, r⟩ := deref_list S ox e1
        split at h
        · rename_i z e
          obtain ⟨v, h1, h2⟩ := atI_rp r e
          exact .inl ⟨l, ws, i, v, rfl, rfl, .inl (.inl hl), h1, q _ M _ B as H h S.gr S h2⟩
        · cases h
      · rename_i xs e1
        obtain ⟨l, ws, rfl, hl, r⟩ := deref_tuple S ox e1
        split at h
        · rename_i z e
          obtain ⟨v, h1, h2⟩ := atI_rp r e
          exact .inr (.inl ⟨l, ws, i, v, rfl, rfl, sqT_mono S.sub hl, h1, q _ M _ B as H h S.gr S h2⟩)
        · cases h
      · cases h
  · cases h
theorem xix (ha : YE X a pa) (hb : YE X b pb) (hs : PlainIx b := by exact fun _ _ => rfl) : YE X (.Subscript a b pos) (pBin pIx pa pb) := by
  obtain ⟨ta, a1, a2⟩ := ha
  obtain ⟨tb, b1, b2⟩ := hb
  exact ⟨_, pe_ix ix_seq a1 b1 hs, sim_op simR_ix a2 b2⟩
end

/-! ## slices -/
abbrev Po := Rho → Mem → (Option Int → Mem → Prop) → Prop
def SimO (Z : Wi) (to : TO) (p : Po) : Prop := ∀ ρ M Qh, p ρ M Qh → ∀ B as σ H (Q : Option Int → Hp → Prop), Sat Z.K M B as H → Slots Z.K B as ρ σ → ExOk Z B as H →
  (∀ b M' B' as' H', Qh b M' → Gr B as H B' as' H' → Sat Z.K M' B' as' H' → Q b H') → to σ H Q
def pNoP : Po := fun _ M Q => Q none M
def pPart (p : Px) : Po := fun ρ M Q => p ρ M fun c M1 => match c with
  | .d (.int i) => Q (some i) M1
  | _ => False
structure YO (X : Cy) (e : Option Expr) (p : Po) : Prop where ex : ∃ t, PO X e t ∧ SimO X.z t p
def cutD (xs : List PyData) (lo hi : Option Int) : List PyData := (xs.drop (HT.sIx xs.length 0 lo)).take (HT.sIx xs.length xs.length hi - HT.sIx xs.length 0 lo)
/-- of a list: a new one; of a tuple a shorter one -/
def pSl (p : Px) (l u : Po) : Px := fun ρ M Q => p ρ M fun c M1 => l ρ M1 fun lo M2 => u ρ M2 fun hi M3 => match deref c M3 with
  | some (.list xs) => Q (.r M3.length) (M3 ++ [.live (cutD xs lo hi)])
  | _ => False
section
variable {X : Cy} {e : Expr} {lo hi : Option Expr} {p : Px} {pl pu : Po} {pos p2 : Pos}
theorem xo_none : YO X none pNoP := ⟨_, po_none, fun ρ M Qh h B as σ H Q S L W0 q => q none M B as H h S.gr S⟩
theorem xo_some {e : Expr} (h : YE X e p) : YO X (some e) (pPart p) := by
  obtain ⟨t, h1, h2⟩ := h
  refine ⟨_, po_some h1, fun ρ M Qh h B as σ H Q S L W0 q => h2 ρ M _ h B as σ H _ S L W0 fun c M1 v B1 as1 H1 h1 g1 S1 o1 => ?_⟩
  split at h1
  · rename_i i
    cases (show Rp X.K B1 v (.int i) from o1)
    exact ⟨i, rfl, q _ M1 B1 as1 H1 h1 g1 S1⟩
  · cases h1
theorem xsl (h : YE X e p) (hl : YO X lo pl) (hu : YO X hi pu) : YE X (.Subscript e (.Slice lo hi none p2) pos) (pSl p pl pu) := by
  obtain ⟨t, h1, h2⟩ := h
  obtain ⟨tl, l1, l2⟩ := hl
  obtain ⟨tu, u1, u2⟩ := hu
  refine ⟨_, pe_slice sl_list h1 l1 u1, fun ρ M Qh h B as σ H Q S L W0 q => h2 ρ M _ h B as σ H _ S L W0 fun c M1 v B1 as1 H1 h1 g1 S1 o1 => l2 ρ M1 _ h1 B1 as1 σ H1 _ S1 (L.mono g1) (W0.on g1) fun a M2 B2 as2 H2 h2 g2 S2 =>
    u2 ρ M2 _ h2 B2 as2 σ H2 _ S2 (L.mono (g1.trans g2)) (W0.on (g1.trans g2)) fun b M3 B3 as3 H3 h3 g3 S3 => ?_⟩
  split at h3
  · rename_i xs ed
    obtain ⟨l, ws, rfl, hl, r⟩ := deref_list S3 ((o1.mono g2).mono g3) ed
    refine ⟨l, ws, rfl, .inl (.inl hl), fun x nx => ?_⟩
    have rc : RpAll X.K B3 (cutV ws a b) (cutD xs a b) := by
      unfold cutV cutD
      rw [r.len]
      exact (r.drop _).take _
    obtain ⟨S4, g4, e4⟩ := S3.newL nx rc
    exact q _ _ _ _ _ _ h3 (((g1.trans g2).trans g3).trans g4) S4 ⟨x, e4, rfl⟩
  · cases h3
end

/-! ## built-in functions -/
abbrev Pr := List Cell → Mem → Qx → Prop
def SimC (K : PySem.W.Frag) (r : List V → Hp → VK → Prop) (p : Pr) : Prop := ∀ cs M Qh, p cs M Qh → ∀ B as vs H (Q : VK), Sat K M B as H → CellsOk K B as vs cs →
  (∀ c M' v B' as' H', Qh c M' → Gr B as H B' as' H' → Sat K M' B' as' H' → CellOk K B' as' v c → Q v H') → r vs H Q
structure YCl (X : Cy) (f : Value) (p : Pr) : Prop where ex : ∃ r, CallR X f r ∧ SimC X.K r p
def pCB (r : Pr) (pa : Pa) : Px := fun ρ M Q => pa ρ M fun cs M1 => r cs M1 Q
section
variable {X : Cy} {e : Expr} {es : List Expr} {x : Str} {id T : String} {pa : Pa} {r : Pr} {p pos : Pos}
theorem simCB {Z : Wi} {ta : TA} {rc : List V → Hp → VK → Prop} (h : SimC Z.K rc r) (ha : SimA Z ta pa) : Sim Z (tCB rc ta) (pCB r pa) := fun ρ M Qh hp B as σ H Q S L W0 q => ha ρ M _ hp B as σ H _ S L W0 fun cs M1 vs B1 as1 H1 h1 g1 S1 o1 =>
  h cs M1 Qh h1 B1 as1 vs H1 Q S1 o1 fun c M2 v B2 as2 H2 h2 g2 S2 o2 => q c M2 v B2 as2 H2 h2 (g1.trans g2) S2 o2
theorem xcb (hc : YCl X (.builtin id) r) (hg : Gl X x) (hm : X.mg x = none) (hv : bootBuiltins x = some (.builtin id)) (ha : YA X (e :: es) pa) (hn : x ≠ "__name__" := by decide) (hdb : (x == ("__debug__" : Str)) = false := by decide)
    (he : starEach (e :: es) X.env = (false, eval e X.env) :: starEach es X.env := by rfl) (hpl : (backTo pos (starEach es X.env)).any (·.1) = false := by rfl) : YE X (.Call (.Name x p) (e :: es) [] pos) (pCB r pa) := by
  obtain ⟨rc, c1, c2⟩ := hc
  obtain ⟨ta, a1, a2⟩ := ha
  exact ⟨_, pe_callB c1 hg hm hv a1 hn hdb he hpl, simCB c2 a2⟩
theorem xct (hc : YCl X (.type T) r) (hg : Gl X x) (hm : X.mg x = none) (hv : bootBuiltins x = some (.type T)) (ha : YA X (e :: es) pa) (hn : x ≠ "__name__" := by decide) (hdb : (x == ("__debug__" : Str)) = false := by decide)
    (he : starEach (e :: es) X.env = (false, eval e X.env) :: starEach es X.env := by rfl) (hpl : (backTo pos (starEach es X.env)).any (·.1) = false := by rfl) : YE X (.Call (.Name x p) (e :: es) [] pos) (pCB r pa) := by
  obtain ⟨rc, c1, c2⟩ := hc
  obtain ⟨ta, a1, a2⟩ := ha
  exact ⟨_, pe_callTy c1 hg hm hv a1 hn hdb he hpl, simCB c2 a2⟩
/-- len -/
def rLn : Pr := fun cs M Q => match cs with
  | [.s ns] => Q (.d (.int ns.length)) M
  | [c] => (match deref c M with
    | some (.list xs) => Q (.d (.int xs.length)) M
    | some (.tuple xs) => Q (.d (.int xs.length)) M
    | _ => False)
  | _ => False
theorem xc_len : YCl X (.builtin "len") rLn := by
  refine ⟨_, call_len_seq, fun cs M Qh h B as vs H Q S o q => ?_⟩
  unfold rLn at h
  split at h
  · rename_i ns
    obtain _ | ⟨⟨l, rfl, hl⟩, _ | _⟩ := o
    refine ⟨l, ns.map V.int, rfl, .inl (Same.seq S.sub hl), ?_⟩
    rw [List.length_map]
    exact q _ M _ B as H h S.gr S (.int _)
  · rename_i c _
    obtain _ | ⟨o1, _ | _⟩ := o
    split at h
    · rename_i xs e
      obtain ⟨l, ws, rfl, hl, r⟩ := deref_list S o1 e
      refine ⟨l, ws, rfl, .inl (.inl (.inl hl)), ?_⟩
      rw [r.len]
      exact q _ M _ B as H h S.gr S (.int _)
    · rename_i xs e
      obtain ⟨l, ws, rfl, hl, r⟩ := deref_tuple S o1 e
      refine ⟨l, ws, rfl, .inr (sqT_mono S.sub hl), ?_⟩
      rw [r.len]
      exact q _ M _ B as H h S.gr S (.int _)
    · cases h
  · cases h
/-- one number -/
def rI1 (g : Int → PyData) : Pr := fun cs M Q => match cs with
  | [.d (.int i)] => Q (.d (g i)) M
  | _ => False
def rI2 (g : Int → Int → PyData) : Pr := fun cs M Q => match cs with
  | [.d (.int i), .d (.int j)] => Q (.d (g i j)) M
  | _ => False
theorem simC1 {K : PySem.W.Frag} {g : Int → V} {f : Int → PyData} (r : ∀ B i, Rp K B (g i) (f i)) : SimC K (fun xs H Q => ∃ i, xs = [.int i] ∧ Q (g i) H) (rI1 f) := fun cs M Qh h B as vs H Q S o q => by
  unfold rI1 at h
  split at h
  · rename_i i
    obtain _ | ⟨o1, _ | _⟩ := o
    cases (show Rp K B _ (.int i) from o1)
    exact ⟨i, rfl, q _ M _ B as H h S.gr S (r B i)⟩
  · cases h
theorem simC2 {K : PySem.W.Frag} {g : Int → Int → V} {f : Int → Int → PyData} (r : ∀ B i j, Rp K B (g i j) (f i j)) : SimC K (fun xs H Q => ∃ i j, xs = [.int i, .int j] ∧ Q (g i j) H) (rI2 f) := fun cs M Qh h B as vs H Q S o q => by
  unfold rI2 at h
  split at h
  · rename_i i j
    obtain _ | ⟨o1, _ | ⟨o2, _ | _⟩⟩ := o
    cases (show Rp K B _ (.int i) from o1)
    cases (show Rp K B _ (.int j) from o2)
    exact ⟨i, j, rfl, q _ M _ B as H h S.gr S (r B i j)⟩
  · cases h
theorem xc_abs : YCl X (.builtin "abs") (rI1 fun i => .int (if i < 0 then -i else i)) := ⟨_, call_abs, simC1 fun _ _ => .int _⟩
theorem xc_max (hc : X.calm = true) : YCl X (.builtin "max") (rI2 fun i j => .int (if j > i then j else i)) := ⟨_, call_max2 hc, simC2 fun _ _ _ => .int _⟩
theorem xc_min (hc : X.calm = true) : YCl X (.builtin "min") (rI2 fun i j => .int (if j < i then j else i)) := ⟨_, call_min2 hc, simC2 fun _ _ _ => .int _⟩
/-- int(n), int(True) -/
def rInt : Pr := fun cs M Q => match cs with
  | [.d (.int i)] => Q (.d (.int i)) M
  | [.d (.bool b)] => Q (.d (.int (if b then 1 else 0))) M
  | _ => False
theorem xc_int : YCl X (.type "int") rInt := by
  refine ⟨_, call_int1, fun cs M Qh h B as vs H Q S o q => ?_⟩
  unfold rInt at h
  split at h
  · rename_i i
    obtain _ | ⟨o1, _ | _⟩ := o
    cases (show Rp X.K B _ (.int i) from o1)
    exact .inl ⟨i, rfl, q _ M _ B as H h S.gr S (.int i)⟩
  · rename_i b
    obtain _ | ⟨o1, _ | _⟩ := o
    cases (show Rp X.K B _ (.bool b) from o1)
    exact .inr ⟨b, rfl, q _ M _ B as H h S.gr S (.int _)⟩
  · cases h
end
end Kt

set_option Elab.async false
set_option linter.all false
set_option maxRecDepth 100000
set_option maxHeartbeats 2000000
namespace Kt
open PySem PySem.Spec PyProof.Rows L2

/-! ## defs: what is promised, without a heap -/
abbrev Gs := List Cell → Mem → Qx → (Xc → Mem → Prop) → Prop
def spD (K : PySem.W.Frag) (n : Nat) (g : Gs) : Sp := fun vs H Q E => vs.length = n ∧ ∃ cs M Qh Eh B as, g cs M Qh Eh ∧ Sat K M B as H ∧ CellsOk K B as vs cs ∧
  (∀ c M' v B' as' H', Qh c M' → Gr B as H B' as' H' → Sat K M' B' as' H' → CellOk K B' as' v c → Q v H') ∧
  (∀ x M' B' as' H' d, Eh x M' → Gr B as H B' as' H' → Sat K M' B' as' H' → XcOk K B' H' d x.f → E (.ref x.C) d H')
/-- the slots at a def's start -/
def stR (n : Nat) (cs : List Cell) : Rho := cs.map some ++ List.replicate (n - cs.length) none
theorem slots_start {K : PySem.W.Frag} {B : Hp} {as : List Addr} {vs : List V} {cs : List Cell} {N : List Str} (o : CellsOk K B as vs cs) : Slots K B as (stR N.length cs) (L2.start N vs) := by
  have hl : vs.length = cs.length := by
    induction o with
    | nil => rfl
    | cons _ _ ih => exact congrArg (· + 1) ih
  have at1 : ∀ (i : Nat) (c : Cell), cs[i]? = some c → ∃ v, vs[i]? = some v ∧ CellOk K B as v c := by
    clear hl
    induction o with
    | nil => intro i c e; simp at e
    | cons h r ih =>
      intro i c e
      cases i with
      | zero =>
        cases e
        exact ⟨_, rfl, h⟩
      | succ i => exact ih i c e
  refine ⟨by unfold stR L2.start; simp [hl], fun i c e => ?_⟩
  unfold stR at e
  unfold L2.start
  by_cases hi : i < cs.length
  · rw [List.getElem?_append_left (by rw [List.length_map]; exact hi), List.getElem?_map] at e
    cases hc : cs[i]? with
    | none => rw [hc] at e; cases e
    | some c' =>
      rw [hc] at e
      have ec : c' = c := Option.some.inj (Option.some.inj e)
      subst ec
      obtain ⟨v, h1, h2⟩ := at1 i c' hc
      refine ⟨v, ?_, h2⟩
      rw [List.getElem?_append_left (by rw [List.length_map, hl]; exact hi), List.getElem?_map, h1] <;> rfl
  · rw [List.getElem?_append_right (by rw [List.length_map]; omega), List.getElem?_replicate] at e
    split at e <;> cases e
theorem CellsOk.len {K : PySem.W.Frag} {B : Hp} {as : List Addr} : ∀ {vs : List V} {cs : List Cell}, CellsOk K B as vs cs → vs.length = cs.length
  | _, _, .nil => rfl
  | _, _, .cons _ r => congrArg (· + 1) (CellsOk.len r)

section
variable {P : Program} {w : World} {K : PySem.W.Frag} {mg : Str → Option Value} {base : Heap}
/-- the context of a def's body -/
def cy (X : Cx) (E : XK) (Eh : Xc → Mem → Prop) : Cy := { toCx := X, W := fun c d _ H => E c d H, Wh := fun x _ M => Eh x M }
abbrev cyOf (P : Program) (w : World) (K : PySem.W.Frag) (mg : Str → Option Value) (base : Heap) (N : List Str) (qual : Str) (st : Stmt) (f : Addr) (cdv : Value) (A : Around) (out : List Env) (s : Shared) (H : Hp) (E : XK) (Eh : Xc → Mem → Prop) : Cy :=
  cy (cxOf (L2.CX P w) P w K mg base N qual (defScope st) f cdv A out s H E) E Eh
/-- a def of the text keeps its promise -/
theorem def_ok {x qual : Str} {st : Stmt} {f : Addr} {fd : FuncData} {N ps : List Str} {k : Nat} {g : Gs} (F : Fun K x qual st f fd) (S : FnScope N ps (defScope st))
    (body : ∀ (cdv : Value) (A : Around) (out : List Env) (s : Shared) (H : Hp) (E : XK) (Eh : Xc → Mem → Prop), A.guards = some [] → Room k (A.deeper (envOfC qual (defScope st) s.heap.objs.size f cdv)) →
      ∃ p, YSs (cyOf P w K mg base N qual st f cdv A out s H E Eh) (defBody st) p ∧ ∀ cs M Qh, cs.length = ps.length → g cs M Qh Eh → p { nx := fun _ M => Qh (.d .none) M, rt := Qh } (stR N.length cs) M) :
    FnG P w K mg base (L2.CX P w) (k + 1) f fd ps (spD K ps.length g) := by
  refine fnG_of F S (fun vs H Q E h => h.1) fun cdv A out s H vs Q E hg hr h => ?_
  obtain ⟨hl, cs, M, Qh, Eh, B, as, hgs, S0, o, q, qe⟩ := h
  obtain ⟨p, ⟨t, t1, t2⟩, hp⟩ := body cdv A out s H E Eh hg hr
  refine ⟨t, t1, t2 _ _ M (hp cs M Qh (by rw [← o.len]; exact hl) hgs) B as _ H _ S0 (slots_start o) ⟨fun x ρ M' B' as' σ H' d h1 g1 S1 _ xo => qe x M' B' as' H' d h1 g1 S1 xo⟩ ⟨?_, ?_, ?_, ?_⟩⟩
  · exact fun ρ M' B' as' σ H' h1 g1 S1 _ => q _ M' _ B' as' H' h1 g1 S1 .non
  · exact fun c M' B' as' v H' h1 g1 S1 o1 => q c M' v B' as' H' h1 g1 S1 o1
  · exact fun _ _ _ _ _ _ h1 => h1.elim
  · exact fun _ _ _ _ _ _ h1 => h1.elim
end

/-! ## calls of defs -/
def cellC : Cell → Mem → Option (Cell × Mem)
  | .s ns, M => some (.s ns, M)
  | c, M => match asD c M with
    | some (x, M1) => some (.d x, M1)
    | none => none
def cellsC : List Cell → Mem → Option (List Cell × Mem)
  | [], M => some ([], M)
  | c :: cs, M => match cellC c M with
    | some (x, M1) => match cellsC cs M1 with
      | some (xs, M2) => some (x :: xs, M2)
      | none => none
    | none => none
/-- what comes back, in the caller's terms; M: the caller's lists, Ml: the callee's -/
def back (Q : Qx) (M : Mem) : Cell → Mem → Prop := fun c Ml => match c with
  | .d x => Q (.d x) M
  | .r k => (match Ml[k]? with
    | some (.live ys) => Q (.r M.length) (M ++ [.live ys])
    | some (.fz ys) => Q (.d (.list ys)) M
    | some (.dc ys) => Q (.r M.length) (M ++ [.dc ys])
    | none => False)
  | .s _ => False
  | .a _ => False
  | .t x k => (match Ml[k]? with
    | some (.live ys) => Q (.t x M.length) (M ++ [.live ys])
    | _ => False)
/-- all arguments are data -/
def gCall (n : Nat) (g : Gs) (Wh : Xc → Rho → Mem → Prop) (ρ : Rho) (Q : Qx) : Qa := fun cs M1 => cs.length = n ∧ match cellsC cs M1 with
  | some (cs', M2) => g cs' [] (back Q M2) fun x _ => Wh x ρ M2
  | none => False
/-- the first argument is a list that the def may change -/
def backR (Q : Qx) (n : Nat) (M2 : Mem) : Cell → Mem → Prop := fun c Ml => match Ml with
  | .live ys :: Mr => (match c with
    | .d x => Q (.d x) (M2.set n (.live ys))
    | .r (k + 1) => (match Mr[k]? with
      | some (.live zs) => Q (.r M2.length) (M2.set n (.live ys) ++ [.live zs])
      | some (.fz zs) => Q (.d (.list zs)) (M2.set n (.live ys))
      | some (.dc _) => False
      | none => False)
    | _ => False)
  | _ => False
def gCallR (k : Nat) (g : Gs) (Wh : Xc → Rho → Mem → Prop) (ρ : Rho) (Q : Qx) : Qa := fun cs M1 => cs.length = k ∧ match cs with
  | .r n :: rest => (match cellsC rest M1 with
    | some (cs', M2) => (match M2[n]? with
      | some (.live xs) => g (.r 0 :: cs') [.live xs] (backR Q n M2) fun x Ml => match Ml with
        | .live ys :: _ => Wh x ρ (M2.set n (.live ys))
        | _ => False
      | _ => False)
    | none => False)
  | _ => False
def pCall (n : Nat) (g : Gs) (Wh : Xc → Rho → Mem → Prop) (pa : Pa) : Px := fun ρ M Q => pa ρ M (gCall n g Wh ρ Q)
def pCallR (n : Nat) (g : Gs) (Wh : Xc → Rho → Mem → Prop) (pa : Pa) : Px := fun ρ M Q => pa ρ M (gCallR n g Wh ρ Q)
section
variable {K : PySem.W.Frag} {M M' : Mem} {B B' H H' : Hp} {as as' : List Addr}
theorem cellC_ok {c c' : Cell} {v : V} (S : Sat K M B as H) (h : CellOk K B as v c) (e : cellC c M = some (c', M')) : ∃ B', Sat K M' B' as H ∧ Gr B as H B' as H ∧ CellOk K B' [] v c' := by
  unfold cellC at e
  split at e
  · cases e
    exact ⟨B, S, S.gr, h⟩
  · split at e
    · rename_i x M1 e1
      cases e
      exact asD_ok S h e1
    · cases e
theorem CellOk.up {v : V} {c : Cell} (b : Same B B') (h : CellOk K B [] v c) (as : List Addr) : CellOk K B' as v c := by
  cases c with
  | d x => exact Rp.mono b h
  | s ns => exact let ⟨a, h1, h2⟩ := h; ⟨a, h1, b.seq h2⟩
  | r n =>
    obtain ⟨l, h1, _⟩ := h
    simp at h1
  | t x n =>
    obtain ⟨_, _, l, _, _, _, h1⟩ := h
    simp at h1
  | a l => exact h
theorem cellsC_ok : ∀ {cs cs' : List Cell} {vs : List V} {M M' : Mem} {B : Hp}, Sat K M B as H → CellsOk K B as vs cs → cellsC cs M = some (cs', M') → ∃ B', Sat K M' B' as H ∧ Gr B as H B' as H ∧ ∀ as1, CellsOk K B' as1 vs cs'
  | [], _, _, M, _, B, S, h, e => by
    cases h
    cases e
    exact ⟨B, S, S.gr, fun _ => .nil⟩
  | c :: cs, _, _, M, _, B, S, h, e => by
    cases h with
    | cons h1 h2 =>
      unfold cellsC at e
      split at e
      · rename_i x M1 e1
        obtain ⟨B1, S1, g1, r1⟩ := cellC_ok S h1 e1
        split at e
        · rename_i xs M2 e2
          cases e
          obtain ⟨B2, S2, g2, r2⟩ := cellsC_ok S1 (h2.mono g1) e2
          exact ⟨B2, S2, g1.trans g2, fun as1 => .cons (r1.up g2.b as1) (r2 as1)⟩
        · cases e
      · cases e
/-- a callee's end, in the caller's terms: its own lists but those at ls are forgotten -/
theorem after_call {Ml : Mem} {al al' : List Addr} (S : Sat K M B as H) (g : Gr B al H B' al' H') (S' : Sat K Ml B' al' H') (sub : ∀ l ∈ al, l ∈ as) (M2 : Mem) (hl : M2.length = M.length)
    (hM : ∀ (n : Nat) (c : MC) (l : Addr), M2[n]? = some c → as[n]? = some l → (M[n]? = some c ∧ l ∉ al) ∨ (l ∈ al ∧ McOk K B' H' l c) ∨ (M[n]? = some c ∧ ∃ xs, c = .fz xs)) :
    Sat K M2 B' as H' ∧ Gr B as H B' as H' := by
  have kp : ∀ l ∈ as, H' l ≠ none := fun l h => by
    by_cases hm : l ∈ al
    · exact g.k l hm
    · cases q : H l with
      | none => exact absurd q (S.free l h)
      | some o => rw [g.h l o hm q]; exact nofun
  refine ⟨⟨S'.sub, fun n c l h1 h2 => ?_, S.nd, by rw [hl]; exact S.len, kp⟩, ⟨g.b, ⟨[], by simp, by simp⟩, fun l o h1 h2 => g.h l o (fun z => h1 (sub l z)) h2, fun l h1 h2 => (g.n l h1 h2).imp id (sub l), kp⟩⟩
  rcases hM n c l h1 h2 with ⟨e, na⟩ | ⟨_, e⟩ | ⟨e, xs, rfl⟩
  · have m := S.mc n c l e h2
    cases c with
    | fz xs =>
      obtain ⟨ws, p, r⟩ := m
      exact ⟨ws, g.b _ _ p, r.mono g.b⟩
    | live xs =>
      obtain ⟨p, ws, p2, r⟩ := m
      refine ⟨?_, ws, g.h l _ na p2, r.mono g.b⟩
      cases q : B' l with
      | none => rfl
      | some o =>
        rcases g.n l p (by rw [q]; exact nofun) with z | z
        · rw [p2] at z; cases z
        · exact absurd z na
    | dc xs =>
      obtain ⟨p, ws, p2, r⟩ := m
      refine ⟨?_, ws, g.h l _ na p2, RpKv.mono g.b r⟩
      cases q : B' l with
      | none => rfl
      | some o =>
        rcases g.n l p (by rw [q]; exact nofun) with z | z
        · rw [p2] at z; cases z
        · exact absurd z na
  · exact e
  · obtain ⟨ws, p, r⟩ := S.mc n _ l e h2
    exact ⟨ws, g.b _ _ p, r.mono g.b⟩
/-- a list of the callee's becomes the caller's own -/
theorem Sat.adopt (S : Sat K M B as H) {l : Addr} {ws : List V} {ds : List PyData} (hl : l ∉ as) (hB : B l = none) (h : H l = some (.lst ws)) (r : RpAll K B ws ds) : Sat K (M ++ [.live ds]) B (as ++ [l]) H ∧ (as ++ [l])[M.length]? = some l := by
  have ga : (as ++ [l])[M.length]? = some l := by
    rw [← S.len, List.getElem?_append_right (Nat.le_refl _), Nat.sub_self]
    rfl
  refine ⟨⟨S.sub, fun n c a h1 h2 => ?_, ?_, by rw [List.length_append, List.length_append, S.len] <;> rfl, fun a ha => ?_⟩, ga⟩
  · by_cases hn : n < M.length
    · rw [List.getElem?_append_left hn] at h1
      rw [List.getElem?_append_left (by rw [S.len]; exact hn)] at h2
      exact S.mc n c a h1 h2
    · have hn2 : n = M.length := by
        have := (List.getElem?_eq_some_iff.mp h1).1
        rw [List.length_append, List.length_singleton] at this
        omega
      subst hn2
      rw [List.getElem?_append_right (Nat.le_refl _), Nat.sub_self] at h1
      rw [ga] at h2
      cases h1
      cases h2
      exact ⟨hB, ws, h, r⟩
  · rw [List.nodup_append]
    exact ⟨S.nd, by simp, fun a ha b hb e => by
      rw [List.mem_singleton.mp hb] at e
      exact hl (e ▸ ha)⟩
  · rcases List.mem_append.mp ha with q | q
    · exact S.free a q
    · rw [List.mem_singleton.mp q, h]
      exact nofun
theorem Sat.adoptD (S : Sat K M B as H) {l : Addr} {ws : List (Key × V)} {ds : List (Int × PyData)} (hl : l ∉ as) (hB : B l = none) (h : H l = some (.dK ws)) (r : RpKv K B ws (ds.map fun p => (PyData.int p.1, p.2))) : Sat K (M ++ [.dc ds]) B (as ++ [l]) H ∧ (as ++ [l])[M.length]? = some l := by
  have ga : (as ++ [l])[M.length]? = some l := by
    rw [← S.len, List.getElem?_append_right (Nat.le_refl _), Nat.sub_self]
    rfl
  refine ⟨⟨S.sub, fun n c a h1 h2 => ?_, ?_, by rw [List.length_append, List.length_append, S.len] <;> rfl, fun a ha => ?_⟩, ga⟩
  · by_cases hn : n < M.length
    · rw [List.getElem?_append_left hn] at h1
      rw [List.getElem?_append_left (by rw [S.len]; exact hn)] at h2
      exact S.mc n c a h1 h2
    · have hn2 : n = M.length := by
        have := (List.getElem?_eq_some_iff.mp h1).1
        rw [List.length_append, List.length_singleton] at this
        omega
      subst hn2
      rw [List.getElem?_append_right (Nat.le_refl _), Nat.sub_self] at h1
      rw [ga] at h2
      cases h1
      cases h2
      exact ⟨hB, ws, h, r⟩
  · rw [List.nodup_append]
    exact ⟨S.nd, by simp, fun a ha b hb e => by
      rw [List.mem_singleton.mp hb] at e
      exact hl (e ▸ ha)⟩
  · rcases List.mem_append.mp ha with q | q
    · exact S.free a q
    · rw [List.mem_singleton.mp q, h]
      exact nofun
end

section
variable {Z : Wi} {g : Gs} {n : Nat} {ta tk : TA} {pa pk : Pa}
theorem back_ok {K : PySem.W.Frag} {M2 Ml : Mem} {B B' H H' : Hp} {as al' : List Addr} {c : Cell} {v : V} {Q : Qx} {R : VK} (S : Sat K M2 B as H) (G : Gr B [] H B' al' H') (S' : Sat K Ml B' al' H') (o : CellOk K B' al' v c) (h : back Q M2 c Ml)
    (q : ∀ c M' v B' as' H', Q c M' → Gr B as H B' as' H' → Sat K M' B' as' H' → CellOk K B' as' v c → R v H') : R v H' := by
  obtain ⟨S2, G2⟩ := after_call S G S' (fun _ h => by cases h) M2 rfl fun n c l h1 h2 => .inl ⟨h1, by simp⟩
  cases c with
  | d x => exact q _ M2 v B' as H' h G2 S2 o
  | s ns => cases h
  | a _ => cases h
  | t x k =>
    unfold back at h
    dsimp only at h
    obtain ⟨a, u, l, ev, sq, ru, hl⟩ := o
    obtain ⟨t, et, ft⟩ := G.a
    have ml : l ∈ t := by rw [← List.nil_append t, ← et]; exact List.mem_of_getElem? hl
    have nl : l ∉ as := fun z => S.free l z (ft l ml)
    split at h
    · rename_i ys hm
      obtain ⟨hB, ws, hw, r⟩ := S'.mc k _ l hm hl
      obtain ⟨S3, e3⟩ := S2.adopt nl hB hw r
      refine q _ _ _ B' (as ++ [l]) H' h ⟨G2.b, ⟨[l], rfl, fun b hb => ?_⟩, G2.h, G2.n, G2.k⟩ S3 ⟨a, u, l, ev, sq, ru, e3⟩
      rw [List.mem_singleton.mp hb]
      exact ft l ml
    · cases h
  | r k =>
    unfold back at h
    dsimp only at h
    obtain ⟨l, hl, rfl⟩ := o
    obtain ⟨t, et, ft⟩ := G.a
    have nl : l ∉ as := fun z => S.free l z (ft l (by rw [← List.nil_append t, ← et]; exact List.mem_of_getElem? hl))
    split at h
    · rename_i ys hm
      obtain ⟨hB, ws, hw, r⟩ := S'.mc k _ l hm hl
      obtain ⟨S3, e3⟩ := S2.adopt nl hB hw r
      refine q _ _ _ B' (as ++ [l]) H' h ⟨G2.b, ⟨[l], rfl, fun a ha => ?_⟩, G2.h, G2.n, G2.k⟩ S3 ⟨l, e3, rfl⟩
      rw [List.mem_singleton.mp ha]
      exact ft l (by rw [← List.nil_append t, ← et]; exact List.mem_of_getElem? hl)
    · rename_i ys hm
      obtain ⟨ws, hw, r⟩ := S'.mc k _ l hm hl
      exact q _ M2 _ B' as H' h G2 S2 (.lst hw r)
    · rename_i ys hm
      obtain ⟨hB, ws, hw, r⟩ := S'.mc k _ l hm hl
      obtain ⟨S3, e3⟩ := S2.adoptD nl hB hw r
      refine q _ _ _ B' (as ++ [l]) H' h ⟨G2.b, ⟨[l], rfl, fun a ha => ?_⟩, G2.h, G2.n, G2.k⟩ S3 ⟨l, e3, rfl⟩
      rw [List.mem_singleton.mp ha]
      exact ft l (by rw [← List.nil_append t, ← et]; exact List.mem_of_getElem? hl)
    · cases h
theorem sat_nil {K : PySem.W.Frag} {M : Mem} {B H : Hp} {as : List Addr} (S : Sat K M B as H) : Sat K [] B [] H := ⟨S.sub, fun n c l h => by simp at h, List.nodup_nil, rfl, fun _ h => by cases h⟩
/-- what the callee's promise asks -/
theorem call_core {M1 : Mem} {B1 H1 : Hp} {as1 : List Addr} {vs : List V} {cs : List Cell} {σ : L2.St} {ρ : Rho} {Qh : Qx} {Q : VK} (S1 : Sat Z.K M1 B1 as1 H1) (L1 : Slots Z.K B1 as1 ρ σ) (W1 : ExOk Z B1 as1 H1) (o1 : CellsOk Z.K B1 as1 vs cs)
    (h1 : gCall n g Z.Wh ρ Qh cs M1) (q : ∀ c M' v B' as' H', Qh c M' → Gr B1 as1 H1 B' as' H' → Sat Z.K M' B' as' H' → CellOk Z.K B' as' v c → Q v H') : spD Z.K n g vs H1 Q (WE Z.W σ) := by
  obtain ⟨hl, h1⟩ := h1
  split at h1
  · rename_i cs' M2 e
    obtain ⟨B2, S2, g2, o2⟩ := cellsC_ok S1 o1 e
    refine ⟨by rw [o1.len]; exact hl, cs', [], _, _, B2, [], h1, sat_nil S2, o2 [], fun c Ml v B' al' H' hb G S' o' => ?_, fun x Ml B' al' H' d hx G S' xo => ?_⟩
    · exact back_ok S2 G S' o' hb fun c M' v B3 as3 H3 h3 g3 S3 o3 => q c M' v B3 as3 H3 h3 (g2.trans g3) S3 o3
    · obtain ⟨S3, G3⟩ := after_call S2 G S' (fun _ h => by cases h) M2 rfl fun n c l h1 h2 => .inl ⟨h1, by simp⟩
      exact W1.ex x ρ M2 B' as1 σ H' d hx (g2.trans G3) S3 ((L1.mono g2).mono G3) xo
  · cases h1
theorem call_coreR {M1 : Mem} {B1 H1 : Hp} {as1 : List Addr} {vs : List V} {cs : List Cell} {σ : L2.St} {ρ : Rho} {Qh : Qx} {Q : VK} (S1 : Sat Z.K M1 B1 as1 H1) (L1 : Slots Z.K B1 as1 ρ σ) (W1 : ExOk Z B1 as1 H1) (o1 : CellsOk Z.K B1 as1 vs cs)
    (h1 : gCallR n g Z.Wh ρ Qh cs M1) (q : ∀ c M' v B' as' H', Qh c M' → Gr B1 as1 H1 B' as' H' → Sat Z.K M' B' as' H' → CellOk Z.K B' as' v c → Q v H') : spD Z.K n g vs H1 Q (WE Z.W σ) := by
  obtain ⟨hl, h1⟩ := h1
  split at h1
  · rename_i m rest
    obtain _ | ⟨⟨l, hla, rfl⟩, o1'⟩ := o1
    split at h1
    · rename_i cs' M2 e
      obtain ⟨B2, S2, g2, o2⟩ := cellsC_ok S1 o1' e
      split at h1
      · rename_i xs hm
        have hl2 : as1[m]? = some l := hla
        have hmem : l ∈ as1 := List.mem_of_getElem? hl2
        obtain ⟨b0, ws, hw, r0⟩ := S2.mc m _ l hm hl2
        have S0 : Sat Z.K [.live xs] B2 [l] H1 := ⟨S2.sub, fun i c a e1 e2 => by
          match i, e1, e2 with
          | 0, e1, e2 =>
            cases e1
            cases e2
            exact ⟨b0, ws, hw, r0⟩
          | i + 1, e1, e2 => simp at e1, by simp, rfl, fun a ha => by
            rw [List.mem_singleton.mp ha, hw]
            exact nofun⟩
        have sub1 : ∀ a ∈ [l], a ∈ as1 := fun a ha => by rw [List.mem_singleton.mp ha]; exact hmem
        have fin : ∀ {ys : List PyData} {Mr : Mem} {B' H' : Hp} {al' : List Addr}, Gr B2 [l] H1 B' al' H' → Sat Z.K (.live ys :: Mr) B' al' H' → Sat Z.K (M2.set m (.live ys)) B' as1 H' ∧ Gr B2 as1 H1 B' as1 H' := fun {ys Mr B' H' al'} G S' => by
          have h0 : al'[0]? = some l := G.pre (n := 0) rfl
          refine after_call S2 G S' sub1 _ (by rw [List.length_set]) fun i c a e1 e2 => ?_
          by_cases hi : m = i
          · subst hi
            rw [List.getElem?_set_self (List.getElem?_eq_some_iff.mp hm).1] at e1
            rw [hl2] at e2
            cases e1
            cases e2
            exact .inr (.inl ⟨by simp, S'.mc 0 _ l rfl h0⟩)
          · rw [List.getElem?_set_ne hi] at e1
            refine .inl ⟨e1, fun z => hi ?_⟩
            rw [List.mem_singleton.mp z] at e2
            have i1 := List.getElem?_eq_some_iff.mp hl2
            have i2 := List.getElem?_eq_some_iff.mp e2
            exact (List.getElem_inj S2.nd).mp (i1.2.trans i2.2.symm)
        refine ⟨by rw [List.length_cons, o1'.len]; exact hl, .r 0 :: cs', [.live xs], _, _, B2, [l], h1, S0, .cons ⟨l, rfl, rfl⟩ (o2 [l]), fun c Ml v B' al' H' hb G S' o' => ?_, fun x Ml B' al' H' d hx G S' xo => ?_⟩
        · unfold backR at hb
          split at hb
          · rename_i ys Mr
            obtain ⟨S3, G3⟩ := fin G S'
            split at hb
            · exact q _ _ v B' as1 H' hb (g2.trans G3) S3 o'
            · rename_i k
              obtain ⟨l2, h2, rfl⟩ := o'
              obtain ⟨t, et, ft⟩ := G.a
              have h2t : t[k]? = some l2 := by rw [et] at h2; simpa using h2
              have fl2 := ft l2 (List.mem_of_getElem? h2t)
              have nl : l2 ∉ as1 := fun z => S1.free l2 z fl2
              split at hb
              · rename_i zs hz
                obtain ⟨hB, us, hu, ru⟩ := S'.mc (k + 1) _ l2 (by simpa using hz) h2
                obtain ⟨S4, e4⟩ := S3.adopt nl hB hu ru
                rw [List.length_set] at e4
                have gt := g2.trans G3
                refine q _ _ _ B' (as1 ++ [l2]) H' hb ⟨gt.b, ⟨[l2], rfl, fun a ha => ?_⟩, gt.h, gt.n, gt.k⟩ S4 ⟨l2, e4, rfl⟩
                rw [List.mem_singleton.mp ha]
                exact fl2
              · rename_i zs hz
                obtain ⟨us, hu, ru⟩ := S'.mc (k + 1) _ l2 (by simpa using hz) h2
                exact q _ _ _ B' as1 H' hb (g2.trans G3) S3 (.lst hu ru)
              · cases hb
              · cases hb
            · cases hb
          · cases hb
        · split at hx
          · rename_i ys Mr
            obtain ⟨S3, G3⟩ := fin G S'
            exact W1.ex x ρ _ B' as1 σ H' d hx (g2.trans G3) S3 ((L1.mono g2).mono G3) xo
          · cases hx
      · cases h1
    · cases h1
  · cases h1
theorem sim_call (ha : SimA Z ta pa) : Sim Z (tCallSD (spD Z.K n g) [] (WE Z.W) ta) (pCall n g Z.Wh pa) := fun ρ M Qh hp B as σ H Q S L W0 q =>
  ha ρ M _ hp B as σ H _ S L W0 fun cs M1 vs B1 as1 H1 h1 g1 S1 o1 => by
    rw [List.append_nil]
    exact call_core S1 (L.mono g1) (W0.on g1) o1 h1 fun c M' v B' as' H' h g2 => q c M' v B' as' H' h (g1.trans g2)
theorem sim_callR (ha : SimA Z ta pa) : Sim Z (tCallSD (spD Z.K n g) [] (WE Z.W) ta) (pCallR n g Z.Wh pa) := fun ρ M Qh hp B as σ H Q S L W0 q =>
  ha ρ M _ hp B as σ H _ S L W0 fun cs M1 vs B1 as1 H1 h1 g1 S1 o1 => by
    rw [List.append_nil]
    exact call_coreR S1 (L.mono g1) (W0.on g1) o1 h1 fun c M' v B' as' H' h g2 => q c M' v B' as' H' h (g1.trans g2)
end
end Kt

set_option Elab.async false
set_option linter.all false
set_option maxRecDepth 100000
set_option maxHeartbeats 2000000
namespace Kt
open PySem PySem.Spec PyProof.Rows L2

/-! ## statements -/
def pNext : Ps := fun D ρ M => D.nx ρ M
def pSeq (p q : Ps) : Ps := fun D ρ M => p { D with nx := q D } ρ M
def pBreak : Ps := fun D ρ M => D.bk ρ M
def pCont : Ps := fun D ρ M => D.ct ρ M
def pDrop (pe : Px) : Ps := fun D ρ M => pe ρ M fun _ M1 => D.nx ρ M1
def pRet (pe : Px) : Ps := fun D ρ M => pe ρ M D.rt
def pRetN : Ps := fun D _ M => D.rt (.d .none) M
def pIf (t : Pt) (p q : Ps) : Ps := fun D ρ M => t ρ M fun b M1 => (b = true → p D ρ M1) ∧ (b = false → q D ρ M1)
def pNever : Ps := fun _ _ _ => False
/-- targets -/
abbrev Pg := Cell → Rho → Mem → (Rho → Mem → Prop) → Prop
abbrev Pgs := List PyData → Rho → Mem → (Rho → Mem → Prop) → Prop
def gNm (i : Nat) : Pg := fun c ρ M Q => Q (ρ.set i (some c)) M
def gsNil : Pgs := fun xs ρ M Q => match xs with
  | [] => Q ρ M
  | _ => False
def gsCons (g : Pg) (gs : Pgs) : Pgs := fun xs ρ M Q => match xs with
  | x :: r => g (.d x) ρ M fun ρ' M' => gs r ρ' M' Q
  | [] => False
def gTp (n : Nat) (gs : Pgs) : Pg := fun c ρ M Q => match c with
  | .d (.tuple xs) => xs.length = n ∧ gs xs ρ M Q
  | _ => False
def pAsg (pe : Px) (g : Pg) : Ps := fun D ρ M => pe ρ M fun c M1 => g c ρ M1 D.nx
def SimG (Z : Wi) (tg : TG) (p : Pg) : Prop := ∀ c ρ M Qh, p c ρ M Qh → ∀ B as v σ H (Q : L2.St → Hp → Prop), Sat Z.K M B as H → Slots Z.K B as ρ σ → CellOk Z.K B as v c → ExOk Z B as H →
  (∀ ρ' M' B' as' σ' H', Qh ρ' M' → Gr B as H B' as' H' → Sat Z.K M' B' as' H' → Slots Z.K B' as' ρ' σ' → Q σ' H') → tg v σ H Q
def SimGs (Z : Wi) (tg : TGs) (p : Pgs) : Prop := ∀ xs ρ M Qh, p xs ρ M Qh → ∀ B as vs σ H (Q : L2.St → Hp → Prop), Sat Z.K M B as H → Slots Z.K B as ρ σ → RpAll Z.K B vs xs → ExOk Z B as H →
  (∀ ρ' M' B' as' σ' H', Qh ρ' M' → Gr B as H B' as' H' → Sat Z.K M' B' as' H' → Slots Z.K B' as' ρ' σ' → Q σ' H') → tg vs σ H Q
structure YG (X : Cy) (e : Expr) (p : Pg) : Prop where ex : ∃ t, PG X e t ∧ SimG X.z t p
structure YGs (X : Cy) (es : List Expr) (p : Pgs) : Prop where ex : ∃ t, PGs X es t ∧ SimGs X.z t p
section
variable {Z : Wi} {te : TE} {pe : Px} {tt : TT} {pt : Pt} {ts us : TS} {ps qs : Ps} {tg : TG} {g : Pg}
theorem simS_next : SimS Z tNext pNext := fun D ρ M h B as σ H D' S L W0 e => e.nx ρ M B as σ H h S.gr S L
theorem simS_brk : SimS Z tBreak pBreak := fun D ρ M h B as σ H D' S L W0 e => e.bk ρ M B as σ H h S.gr S L
theorem simS_cont : SimS Z tCont pCont := fun D ρ M h B as σ H D' S L W0 e => e.ct ρ M B as σ H h S.gr S L
theorem simS_seq (h1 : SimS Z ts ps) (h2 : SimS Z us qs) : SimS Z (tSeq ts us) (pSeq ps qs) := fun D ρ M h B as σ H D' S L W0 e =>
  h1 _ ρ M h B as σ H _ S L W0 ⟨fun ρ' M' B' as' σ' H' h' g' S' L' => h2 D ρ' M' h' B' as' σ' H' D' S' L' (W0.on g') (e.on g'), e.rt, e.bk, e.ct⟩
theorem simS_drop (h1 : Sim Z te pe) : SimS Z (tDrop te) (pDrop pe) := fun D ρ M h B as σ H D' S L W0 e => h1 ρ M _ h B as σ H _ S L W0 fun c M1 v B1 as1 H1 h1 g1 S1 _ => e.nx ρ M1 B1 as1 σ H1 h1 g1 S1 (L.mono g1)
theorem simS_ret (h1 : Sim Z te pe) : SimS Z (tRet te) (pRet pe) := fun D ρ M h B as σ H D' S L W0 e => h1 ρ M _ h B as σ H _ S L W0 fun c M1 v B1 as1 H1 h1 g1 S1 o1 => e.rt c M1 B1 as1 v H1 h1 g1 S1 o1
theorem simS_retN : SimS Z tRetN pRetN := fun D ρ M h B as σ H D' S L W0 e => e.rt _ M B as _ H h S.gr S .non
theorem simS_if (h0 : SimT Z tt pt) (h1 : SimS Z ts ps) (h2 : SimS Z us qs) : SimS Z (tIfS tt ts us) (pIf pt ps qs) := fun D ρ M h B as σ H D' S L W0 e => h0 ρ M _ h B as σ H _ S L W0 fun b M1 B1 as1 H1 hb g1 S1 => by
  cases b with
  | true => exact h1 D ρ M1 (hb.1 rfl) B1 as1 σ H1 D' S1 (L.mono g1) (W0.on g1) (e.on g1)
  | false => exact h2 D ρ M1 (hb.2 rfl) B1 as1 σ H1 D' S1 (L.mono g1) (W0.on g1) (e.on g1)
theorem simG_name {i : Nat} : SimG Z (gName i) (gNm i) := fun c ρ M Qh h B as v σ H Q S L o W0 q => q _ M B as _ H h S.gr S (L.set o)
theorem simGs_nil : SimGs Z gNil gsNil := fun xs ρ M Qh h B as vs σ H Q S L o W0 q => by
  cases xs with
  | nil =>
    cases o
    exact ⟨rfl, q ρ M B as σ H h S.gr S L⟩
  | cons _ _ => cases h
theorem simGs_cons {tgs : TGs} {gs : Pgs} (h1 : SimG Z tg g) (h2 : SimGs Z tgs gs) : SimGs Z (gCons tg tgs) (gsCons g gs) := fun xs ρ M Qh h B as vs σ H Q S L o W0 q => by
  cases xs with
  | nil => cases h
  | cons x r =>
    obtain _ | ⟨o1, o2⟩ := o
    exact ⟨_, _, rfl, h1 (.d x) ρ M _ h B as _ σ H _ S L o1 W0 fun ρ' M' B' as' σ' H' h' g' S' L' => h2 r ρ' M' Qh h' B' as' _ σ' H' Q S' L' (o2.mono g'.b) (W0.on g') fun ρ2 M2 B2 as2 σ2 H2 h3 g3 => q ρ2 M2 B2 as2 σ2 H2 h3 (g'.trans g3)⟩
theorem simG_tup {n : Nat} {tgs : TGs} {gs : Pgs} (h1 : SimGs Z tgs gs) : SimG Z (gTup Z.K n tgs) (gTp n gs) := fun c ρ M Qh h B as v σ H Q S L o W0 q => by
  unfold gTp at h
  split at h
  · rename_i xs
    obtain ⟨l, ws, rfl, hl, r⟩ := deref_tuple S o (show deref (.d (.tuple xs)) M = some (.tuple xs) from rfl)
    exact ⟨l, ws, rfl, sqT_mono S.sub hl, by rw [r.len]; exact h.1, h1 xs ρ M Qh h.2 B as ws σ H Q S L r W0 q⟩
  · cases h
theorem simS_asg (h1 : Sim Z te pe) (h2 : SimG Z tg g) : SimS Z (tAsg te tg) (pAsg pe g) := fun D ρ M h B as σ H D' S L W0 e => h1 ρ M _ h B as σ H _ S L W0 fun c M1 v B1 as1 H1 hh g1 S1 o1 =>
  h2 c ρ M1 _ hh B1 as1 v σ H1 _ S1 (L.mono g1) o1 (W0.on g1) fun ρ' M' B' as' σ' H' h' g' S' L' => e.nx ρ' M' B' as' σ' H' h' (g1.trans g') S' L'
end
section
variable {X : Cy} {e a tg : Expr} {st : Stmt} {sts s1 s2 : List Stmt} {pe : Px} {pt : Pt} {p q : Ps} {g : Pg} {gs : Pgs} {pos pos' : Pos}
theorem ys_nil : YSs X [] pNext := ⟨_, pss_nil, simS_next⟩
theorem ys_cons (h1 : YS X st p) (h2 : YSs X sts q) : YSs X (st :: sts) (pSeq p q) := let ⟨_, a1, a2⟩ := h1; let ⟨_, b1, b2⟩ := h2; ⟨_, pss_cons a1 b1, simS_seq a2 b2⟩
theorem ys_one (h1 : YS X st p) : YSs X [st] p := let ⟨_, a1, a2⟩ := h1; ⟨_, pss_one a1, a2⟩
theorem ys_never : YSs X sts pNever := ⟨_, pss_never, fun D ρ M h => h.elim⟩
theorem y_never : YS X st pNever := ⟨_, ps_never, fun D ρ M h => h.elim⟩
theorem y_ret (h : YE X e pe) : YS X (.Return (some e) pos) (pRet pe) := let ⟨_, a1, a2⟩ := h; ⟨_, ps_ret a1, simS_ret a2⟩
theorem y_retN : YS X (.Return none pos) pRetN := ⟨_, ps_retN, simS_retN⟩
theorem y_pass : YS X (.Pass pos) pNext := ⟨_, ps_pass, simS_next⟩
theorem y_brk : YS X (.Break pos) pBreak := ⟨_, ps_break, simS_brk⟩
theorem y_cont : YS X (.Continue pos) pCont := ⟨_, ps_continue, simS_cont⟩
theorem y_expr (h : YE X e pe) (hs : swapsWith e none pos.line X.env = pure false := by rfl) : YS X (.Expr e pos) (pDrop pe) := let ⟨_, a1, a2⟩ := h; ⟨_, ps_expr a1 hs, simS_drop a2⟩
theorem y_if (h : YT X e pt) (h1 : YSs X s1 p) (h2 : YSs X s2 q) : YS X (.If e s1 s2 pos) (pIf pt p q) := let ⟨_, a1, a2⟩ := h; let ⟨_, b1, b2⟩ := h1; let ⟨_, c1, c2⟩ := h2; ⟨_, ps_if a1 b1 c1, simS_if a2 b2 c2⟩
theorem y_set {i : Nat} {x : Str} (hN : X.N.Nodup) (hi : X.N[i]? = some x) (hx : Loc X.env.scope x) (he : YE X e pe) (hs : swapsWith e (some (.Name x pos')) pos.line X.env = pure false := by rfl)
    (hf : X.fn x = true ∨ X.env.scope.names.lookup x = some .local := by first | exact .inl rfl | exact .inr rfl | assumption) : YS X (.Assign [.Name x pos'] e pos) (pAsg pe (gNm i)) := let ⟨_, a1, a2⟩ := he; ⟨_, ps_set hN hi hx a1 hs hf, simS_asg a2 simG_name⟩
theorem yg_name {i : Nat} {x : Str} (hN : X.N.Nodup) (hi : X.N[i]? = some x) (hx : Loc X.env.scope x) (hf : X.fn x = true ∨ X.env.scope.names.lookup x = some .local := by first | exact .inl rfl | exact .inr rfl | assumption) : YG X (.Name x pos) (gNm i) := ⟨_, pg_name hN hi hx hf, simG_name⟩
theorem ygs_nil : YGs X [] gsNil := ⟨_, pgs_nil, simGs_nil⟩
theorem ygs_cons {es : List Expr} (h1 : YG X e g) (h2 : YGs X es gs)
    (hs : (assignEach (e :: es) X.env).map (·.2) = assign e X.env :: (assignEach es X.env).map (·.2) := by rfl) : YGs X (e :: es) (gsCons g gs) := let ⟨_, a1, a2⟩ := h1; let ⟨_, b1, b2⟩ := h2; ⟨_, pgs_cons a1 b1 hs, simGs_cons a2 b2⟩
theorem yg_tup {es : List Expr} {k n : Nat} (hc : X.calm = true) (h : YGs X es gs) (hn : (assignEach es X.env).length = n := by rfl) (hst : (assignEach es X.env).findIdx? (·.1) = none := by rfl) : YG X (.Tuple es k pos) (gTp n gs) :=
  let ⟨_, a1, a2⟩ := h; ⟨_, pg_tup hc a1 hn hst, simG_tup a2⟩
theorem y_asg {tg : Expr} (he : YE X e pe) (hg : YG X tg g) (hs : swapsWithSole [tg] e pos.line X.env = pure false := by rfl) (hw : swappedStores [tg] e X.env = pure none := by rfl)
    (h1 : (assignEach [tg] X.env).map (·.2) = [assign tg X.env] := by rfl) : YS X (.Assign [tg] e pos) (pAsg pe g) := let ⟨_, a1, a2⟩ := he; let ⟨_, b1, b2⟩ := hg; ⟨_, ps_asg a1 b1 hs hw h1, simS_asg a2 b2⟩
/-- a, b = x, y -/
def pPar (i j : Nat) (pa : Pa) : Ps := fun D ρ M => pa ρ M fun cs M1 => match cs with
  | [c, d] => D.nx ((ρ.set i (some c)).set j (some d)) M1
  | _ => False
theorem simS_par {Z : Wi} {i j : Nat} {ta : TA} {pa : Pa} (h1 : SimA Z ta pa) : SimS Z (tPar i j ta) (pPar i j pa) := fun D ρ M h B as σ H D' S L W0 e => h1 ρ M _ h B as σ H _ S L W0 fun cs M1 vs B1 as1 H1 hh g1 S1 o1 => by
  split at hh
  · rename_i c d
    obtain _ | ⟨o1, _ | ⟨o2, _ | _⟩⟩ := o1
    exact ⟨_, _, rfl, e.nx _ M1 B1 as1 _ H1 hh g1 S1 (((L.mono g1).set o1).set o2)⟩
  · cases hh
theorem y_par {i j : Nat} {x y : Str} {a b : Expr} {pa : Pa} {px py pt : Pos} {kt k2 pt2} (hc : X.calm = true) (hN : X.N.Nodup) (hi : X.N[i]? = some x) (hj : X.N[j]? = some y) (hij : i ≠ j)
    (hx : X.env.scope.names.lookup x = some .local) (hy : X.env.scope.names.lookup y = some .local) (ha : YA X [a, b] pa)
    (hw : swappedStores [.Tuple [.Name x px, .Name y py] kt pt] (.Tuple [a, b] k2 pt2) X.env = pure (some [x, y]) := by rfl)
    (hs : swapsWithSole [.Tuple [.Name x px, .Name y py] kt pt] (.Tuple [a, b] k2 pt2) pos.line X.env = pure false := by rfl) :
    YS X (.Assign [.Tuple [.Name x px, .Name y py] kt pt] (.Tuple [a, b] k2 pt2) pos) (pPar i j pa) := let ⟨_, a1, a2⟩ := ha; ⟨_, ps_par hc hN hi hj hij hx hy a1 hw hs, simS_par a2⟩
end

/-! ## what is walked -/
abbrev Pi := Rho → Mem → (List PyData → Mem → Prop) → Prop
/-- the iterator gives xs, whatever is laid meanwhile -/
structure Runs (K : PySem.W.Frag) (J : It) (B : Hp) (as : List Addr) (H : Hp) (xs : List PyData) : Prop where
  turn : ∀ (i : Nat) (x : PyData) (M : Mem) (B' : Hp) (as' : List Addr) (H' : Hp), xs[i]? = some x → Same B B' → Sat K M B' as' H' → J.go i H' ∧
    ∀ v H2, J.yld i H' v H2 → ∃ B2, Sat K M B2 as' H2 ∧ Gr B' as' H' B2 as' H2 ∧ Rp K B2 v x
  stop : ∀ (M : Mem) (B' : Hp) (as' : List Addr) (H' : Hp), Same B B' → Sat K M B' as' H' → J.stop xs.length H'
/-- the same with what else stands in the heap but is not told -/
def SimI (Z : Wi) (wi : TI) (p : Pi) : Prop := ∀ ρ M Qh, p ρ M Qh → ∀ B as σ H (R : It → Hp → Prop), Sat Z.K M B as H → Slots Z.K B as ρ σ → ExOk Z B as H →
  (∀ xs M' B' as' H' J, Qh xs M' → Gr B as H B' as' H' → Sat Z.K M' B' as' H' → Runs Z.K J B' as' H' xs → R J H') → wi σ H R
structure YI (X : Cy) (tg e : Expr) (p : Pi) : Prop where ex : ∃ t, PI X tg e t ∧ SimI X.z t p
def runL (g : Pg) (pb : Ps) (D : En) : List PyData → Rho → Mem → Prop
  | [], ρ, M => D.nx ρ M
  | x :: xs, ρ, M => g (.d x) ρ M fun ρ2 M2 => pb { nx := runL g pb D xs, rt := D.rt, bk := D.nx, ct := runL g pb D xs } ρ2 M2
def pFor (pi : Pi) (g : Pg) (pb : Ps) : Ps := fun D ρ M => pi ρ M fun xs M1 => runL g pb D xs ρ M1
theorem simS_for {Z : Wi} {wi : TI} {pi : Pi} {tg : TG} {g : Pg} {tb : TS} {pb : Ps} (h1 : SimI Z wi pi) (h2 : SimG Z tg g) (h3 : SimS Z tb pb) : SimS Z (tFor wi tg tb) (pFor pi g pb) := fun D ρ M h B as σ H D' S L W0 e =>
  h1 ρ M _ h B as σ H _ S L W0 fun xs M1 B1 as1 H1 J hr g1 S1 R => by
    refine ⟨fun i m σ' H' => m = xs.length - i ∧ i ≤ xs.length ∧ ∃ ρ' M' B' as', runL g pb D (xs.drop i) ρ' M' ∧ Gr B1 as1 H1 B' as' H' ∧ Sat Z.K M' B' as' H' ∧ Slots Z.K B' as' ρ' σ',
      ⟨xs.length, by simp, Nat.zero_le _, ρ, M1, B1, as1, hr, S1.gr, S1, L.mono g1⟩, ?_⟩
    rintro i m σ' H' ⟨rfl, hi, ρ', M', B', as', hr', g', S', L'⟩
    by_cases hlt : i < xs.length
    · have ex : xs[i]? = some xs[i] := List.getElem?_eq_getElem hlt
      obtain ⟨go, yl⟩ := R.turn i _ M' B' as' H' ex g'.b S'
      rw [List.drop_eq_getElem_cons hlt] at hr'
      refine .inr ⟨go, fun σ2 H2 => i + 1 ≤ xs.length ∧ ∃ ρ' M' B' as', runL g pb D (xs.drop (i + 1)) ρ' M' ∧ Gr B1 as1 H1 B' as' H2 ∧ Sat Z.K M' B' as' H2 ∧ Slots Z.K B' as' ρ' σ2, fun σ2 H2 q => ⟨xs.length - (i + 1), by omega, rfl, q⟩, fun v H2 y => ?_⟩
      obtain ⟨B2, S2, g2, r2⟩ := yl v H2 y
      have gg := g'.trans g2
      refine h2 (.d xs[i]) ρ' M' _ hr' B2 as' v σ' H2 _ S2 (L'.mono g2) r2 (W0.on (g1.trans gg)) fun ρ3 M3 B3 as3 σ3 H3 h3' g3 S3 L3 => ?_
      have g4 := gg.trans g3
      refine h3 _ ρ3 M3 h3' B3 as3 σ3 H3 _ S3 L3 (W0.on (g1.trans g4)) ⟨?_, ?_, ?_, ?_⟩
      · exact fun ρ5 M5 B5 as5 σ5 H5 h5 g5 S5 L5 => ⟨hlt, ρ5, M5, B5, as5, h5, g4.trans g5, S5, L5⟩
      · exact fun c M5 B5 as5 v5 H5 h5 g5 S5 o5 => e.rt c M5 B5 as5 v5 H5 h5 (g1.trans (g4.trans g5)) S5 o5
      · exact fun ρ5 M5 B5 as5 σ5 H5 h5 g5 S5 L5 => e.nx ρ5 M5 B5 as5 σ5 H5 h5 (g1.trans (g4.trans g5)) S5 L5
      · exact fun ρ5 M5 B5 as5 σ5 H5 h5 g5 S5 L5 => ⟨hlt, ρ5, M5, B5, as5, h5, g4.trans g5, S5, L5⟩
    · have hi' : i = xs.length := by omega
      subst hi'
      rw [List.drop_length] at hr'
      exact .inl ⟨R.stop M' B' as' H' g'.b S', e.nx ρ' M' B' as' σ' H' hr' (g1.trans g') S' L'⟩
theorem y_for {X : Cy} {tg iter : Expr} {body : List Stmt} {pi : Pi} {g : Pg} {pb : Ps} {pos : Pos} (hp : PassesOwn (model X.prog X.w) X.A X.env X.xe) (hc : X.calm = true) (hi : YI X tg iter pi) (hg : YG X tg g) (hb : YSs X body pb)
    (ht : ∀ x, foldedSetIterable iter X.env x = pure x := by intro _; rfl) : YS X (.For tg iter body [] pos) (pFor pi g pb) := by
  obtain ⟨ti, i1, i2⟩ := hi
  obtain ⟨tg', g1, g2⟩ := hg
  obtain ⟨tb, b1, b2⟩ := hb
  exact ⟨_, ps_for hp hc i1 g1 b1 ht, simS_for i2 g2 b2⟩
end Kt

set_option Elab.async false
set_option linter.all false
set_option maxRecDepth 100000
set_option maxHeartbeats 2000000
namespace Kt
open PySem PySem.Spec PyProof.Rows L2

/-! ## iterators -/
def asL (c : Cell) (M : Mem) : Option (List PyData × Mem) := match asD c M with
  | some (.list xs, M1) => some (xs, M1)
  | _ => none
def iLst (p : Px) : Pi := fun ρ M Q => p ρ M fun c M1 => match asL c M1 with
  | some (xs, M2) => Q xs M2
  | none => False
def iTpl (p : Px) : Pi := fun ρ M Q => p ρ M fun c M1 => match c with
  | .d (.tuple xs) => Q xs M1
  | _ => False
def intsFrom (lo : Int) (n : Nat) : List PyData := (List.range n).map fun (k : Nat) => .int (lo + (k : Int))
def iRg1 (pa : Pa) : Pi := fun ρ M Q => pa ρ M fun cs M1 => match cs with
  | [.d (.int j)] => (-(2 ^ 62) ≤ j ∧ j < 2 ^ 62) ∧ Q (intsFrom 0 j.toNat) M1
  | _ => False
def iRg2 (pa : Pa) : Pi := fun ρ M Q => pa ρ M fun cs M1 => match cs with
  | [.d (.int i), .d (.int j)] => (-(2 ^ 62) ≤ i ∧ i < 2 ^ 62 ∧ -(2 ^ 62) ≤ j ∧ j < 2 ^ 62) ∧ Q (intsFrom i (j - i).toNat) M1
  | _ => False
def numbered : Nat → List PyData → List PyData
  | _, [] => []
  | k, x :: xs => .tuple [.int k, x] :: numbered (k + 1) xs
def iEnm (pa : Pa) : Pi := fun ρ M Q => pa ρ M fun cs M1 => match cs with
  | [c] => (match asL c M1 with
    | some (xs, M2) => Q (numbered 0 xs) M2
    | none => False)
  | _ => False
def paired : List PyData → List PyData → List PyData
  | x :: xs, y :: ys => .tuple [x, y] :: paired xs ys
  | _, _ => []
def iZp (pa : Pa) : Pi := fun ρ M Q => pa ρ M fun cs M1 => match asDs cs M1 with
  | some ([.list xs, .list ys], M2) => Q (paired xs ys) M2
  | _ => False
theorem numbered_len : ∀ (xs : List PyData) (k : Nat), (numbered k xs).length = xs.length
  | [], _ => rfl
  | _ :: xs, k => congrArg (· + 1) (numbered_len xs (k + 1))
theorem numbered_get : ∀ (xs : List PyData) (k i : Nat) (z : PyData), (numbered k xs)[i]? = some z → ∃ x, xs[i]? = some x ∧ z = .tuple [.int ((k + i : Nat) : Int), x]
  | [], _, _, _, h => by simp [numbered] at h
  | x :: xs, k, 0, z, h => ⟨x, rfl, by simp [numbered] at h; simp [← h]⟩
  | x :: xs, k, i + 1, z, h => by
    obtain ⟨y, h1, h2⟩ := numbered_get xs (k + 1) i z (by simpa [numbered] using h)
    exact ⟨y, by simpa using h1, by rw [h2, show k + 1 + i = k + (i + 1) by omega]⟩
theorem paired_get : ∀ (xs ys : List PyData) (i : Nat) (z : PyData), (paired xs ys)[i]? = some z → ∃ x y, xs[i]? = some x ∧ ys[i]? = some y ∧ z = .tuple [x, y]
  | [], _, _, _, h => by simp [paired] at h
  | _ :: _, [], _, _, h => by simp [paired] at h
  | x :: xs, y :: ys, 0, z, h => ⟨x, y, rfl, rfl, by simp [paired] at h; simp [← h]⟩
  | x :: xs, y :: ys, i + 1, z, h => by
    obtain ⟨a, b, h1, h2, h3⟩ := paired_get xs ys i z (by simpa [paired] using h)
    exact ⟨a, b, by simpa using h1, by simpa using h2, h3⟩
theorem paired_len : ∀ (xs ys : List PyData), (paired xs ys).length = min xs.length ys.length
  | [], _ => by simp [paired]
  | _ :: _, [] => by simp [paired]
  | x :: xs, y :: ys => by simp [paired, paired_len xs ys, Nat.add_min_add_right]
section
variable {K : PySem.W.Frag} {M : Mem} {B B' H : Hp} {as : List Addr} {xs : List PyData} {a : Addr} {ws : List V}
theorem asL_ok {c : Cell} {v : V} {M' : Mem} (S : Sat K M B as H) (h : CellOk K B as v c) (e : asL c M = some (xs, M')) : ∃ B' l ws, Sat K M' B' as H ∧ Gr B as H B' as H ∧ v = .ref l ∧ B' l = some (.lst ws) ∧ RpAll K B' ws xs := by
  unfold asL at e
  split at e
  · rename_i ys M1 e1
    cases e
    obtain ⟨B', S', g', r'⟩ := asD_ok S h e1
    cases r' with
    | lst h1 h2 => exact ⟨B', _, _, S', g', rfl, h1, h2⟩
  · cases e
theorem runs_list (h : B a = some (.lst ws)) (r : RpAll K B ws xs) : Runs K (Itl K a) B as H xs := by
  refine ⟨fun i x M B' as' H' e g S => ?_, fun M B' as' H' g S => ⟨ws, .inl (.inl (S.sub _ _ (g _ _ h))), by rw [r.len]; exact Nat.le_refl _⟩⟩
  have hs : SqL K H' a ws := .inl (.inl (S.sub _ _ (g _ _ h)))
  obtain ⟨v, h1, h2⟩ := r.get e
  refine ⟨⟨ws, v, hs, h1⟩, fun v' H2 y => ?_⟩
  obtain ⟨rfl, q⟩ := y
  obtain rfl : v = v' := Option.some.inj (h1.symm.trans (q ws hs))
  exact ⟨B', S, S.gr, h2.mono g⟩
theorem runs_tup (h : SqT K B a ws) (r : RpAll K B ws xs) : Runs K (Itt K a) B as H xs := by
  refine ⟨fun i x M B' as' H' e g S => ?_, fun M B' as' H' g S => ⟨ws, sqT_mono S.sub (sqT_mono g h), by rw [r.len]; exact Nat.le_refl _⟩⟩
  have hs : SqT K H' a ws := sqT_mono S.sub (sqT_mono g h)
  obtain ⟨v, h1, h2⟩ := r.get e
  refine ⟨⟨ws, v, hs, h1⟩, fun v' H2 y => ?_⟩
  obtain ⟨rfl, q⟩ := y
  obtain rfl : v = v' := Option.some.inj (h1.symm.trans (q ws hs))
  exact ⟨B', S, S.gr, h2.mono g⟩
theorem runs_rng {lo : Int} {n : Nat} : Runs K (Itr lo n) B as H (intsFrom lo n) := by
  refine ⟨fun i x M B' as' H' e g S => ?_, fun M B' as' H' g S => by show n ≤ (intsFrom lo n).length; unfold intsFrom; simp⟩
  unfold intsFrom at e
  rw [List.getElem?_map] at e
  have hi : i < n := by
    rcases Nat.lt_or_ge i n with h | h
    · exact h
    · rw [List.getElem?_eq_none (by simpa using h)] at e
      cases e
  rw [List.getElem?_range hi] at e
  cases e
  refine ⟨hi, fun v H2 y => ?_⟩
  obtain ⟨rfl, rfl⟩ := y
  exact ⟨B', S, S.gr, .int _⟩
theorem runs_enum (h : B a = some (.lst ws)) (r : RpAll K B ws xs) : Runs K (Ite K a) B as H (numbered 0 xs) := by
  refine ⟨fun i x M B' as' H' e g S => ?_, fun M B' as' H' g S => ⟨ws, .inl (.inl (S.sub _ _ (g _ _ h))), by rw [r.len, numbered_len]; exact Nat.le_refl _⟩⟩
  have hs : SqL K H' a ws := .inl (.inl (S.sub _ _ (g _ _ h)))
  obtain ⟨y, ey, rfl⟩ := numbered_get xs 0 i x e
  obtain ⟨v, h1, h2⟩ := r.get ey
  refine ⟨⟨ws, v, hs, h1⟩, fun v' H2 y' => ?_⟩
  obtain ⟨T, z, rfl, nT, rfl, q⟩ := y'
  obtain rfl : v = z := Option.some.inj (h1.symm.trans (q ws hs))
  obtain ⟨S', g'⟩ := S.new (o := .tup [.int i, v]) nT
  refine ⟨_, S', g', .tup (.inl (.inl upd_same)) (.cons ?_ (.cons ((h2.mono g).mono g'.b) .nil))⟩
  rw [Nat.zero_add]
  exact .int _
theorem runs_zip {b : Addr} {us : List V} {ys : List PyData} (h : B a = some (.lst ws)) (r : RpAll K B ws xs) (hb : B b = some (.lst us)) (rb : RpAll K B us ys) : Runs K (Itz K a b) B as H (paired xs ys) := by
  refine ⟨fun i x M B' as' H' e g S => ?_, fun M B' as' H' g S => ⟨ws, us, .inl (.inl (S.sub _ _ (g _ _ h))), .inl (.inl (S.sub _ _ (g _ _ hb))), by rw [r.len, rb.len, paired_len]; omega⟩⟩
  have hs : SqL K H' a ws := .inl (.inl (S.sub _ _ (g _ _ h)))
  have hs2 : SqL K H' b us := .inl (.inl (S.sub _ _ (g _ _ hb)))
  obtain ⟨p, q, e1, e2, rfl⟩ := paired_get xs ys i x e
  obtain ⟨v, h1, h2⟩ := r.get e1
  obtain ⟨u, k1, k2⟩ := rb.get e2
  refine ⟨⟨ws, us, v, u, hs, hs2, h1, k1⟩, fun v' H2 y' => ?_⟩
  obtain ⟨T, z, z2, rfl, nT, rfl, q1, q2⟩ := y'
  obtain rfl : v = z := Option.some.inj (h1.symm.trans (q1 ws hs))
  obtain rfl : u = z2 := Option.some.inj (k1.symm.trans (q2 us hs2))
  obtain ⟨S', g'⟩ := S.new (o := .tup [v, u]) nT
  exact ⟨_, S', g', .tup (.inl (.inl upd_same)) (.cons ((h2.mono g).mono g'.b) (.cons ((k2.mono g).mono g'.b) .nil))⟩
end
section
variable {X : Cy} {tg l a e e2 : Expr} {p : Px} {pa : Pa} {pos p0 : Pos}
theorem yi_list (h : YE X l p) : YI X tg l (iLst p) := by
  obtain ⟨t, h1, h2⟩ := h
  refine ⟨_, pi_list h1, fun ρ M Qh h B as σ H R S L W0 q => h2 ρ M _ h B as σ H _ S L W0 fun c M1 v B1 as1 H1 hh g1 S1 o1 => ?_⟩
  split at hh
  · rename_i xs M2 e
    obtain ⟨B2, l, ws, S2, g2, rfl, hl, r⟩ := asL_ok S1 o1 e
    exact ⟨l, rfl, ⟨ws, .inl (.inl (S2.sub _ _ hl))⟩, q xs M2 B2 as1 H1 _ hh (g1.trans g2) S2 (runs_list hl r)⟩
  · cases hh
theorem yi_tup (h : YE X l p) : YI X tg l (iTpl p) := by
  obtain ⟨t, h1, h2⟩ := h
  refine ⟨_, pi_tup h1, fun ρ M Qh h B as σ H R S L W0 q => h2 ρ M _ h B as σ H _ S L W0 fun c M1 v B1 as1 H1 hh g1 S1 o1 => ?_⟩
  split at hh
  · rename_i xs
    obtain ⟨l, ws, rfl, hl, r⟩ := deref_tuple S1 o1 (show deref (.d (.tuple xs)) M1 = some (.tuple xs) from rfl)
    exact ⟨l, rfl, ⟨ws, sqT_mono S1.sub hl⟩, q xs M1 B1 as1 H1 _ hh g1 S1 (runs_tup hl r)⟩
  · cases hh
theorem yi_rng1 (hg : Gl X "range") (hm : X.mg "range" = none) (ha : YA X [a] pa) (hs : starEach [a] X.env = [(false, eval a X.env)] := by rfl) : YI X tg (.Call (.Name "range" p0) [a] [] pos) (iRg1 pa) := by
  obtain ⟨t, h1, h2⟩ := ha
  refine ⟨_, pi_range1 hg hm h1 hs, fun ρ M Qh h B as σ H R S L W0 q => h2 ρ M _ h B as σ H _ S L W0 fun cs M1 vs B1 as1 H1 hh g1 S1 o1 => ?_⟩
  split at hh
  · rename_i j
    obtain _ | ⟨o1, _ | _⟩ := o1
    cases (show Rp X.K B1 _ (.int j) from o1)
    exact ⟨j, rfl, hh.1.1, hh.1.2, q _ M1 B1 as1 H1 _ hh.2 g1 S1 runs_rng⟩
  · cases hh
theorem yi_rng2 {b : Expr} (hg : Gl X "range") (hm : X.mg "range" = none) (ha : YA X [a, b] pa) (hs : starEach [a, b] X.env = [(false, eval a X.env), (false, eval b X.env)] := by rfl) (hs2 : starEach [b] X.env = [(false, eval b X.env)] := by rfl) : YI X tg (.Call (.Name "range" p0) [a, b] [] pos) (iRg2 pa) := by
  obtain ⟨t, h1, h2⟩ := ha
  refine ⟨_, pi_range2 hg hm h1 hs hs2, fun ρ M Qh h B as σ H R S L W0 q => h2 ρ M _ h B as σ H _ S L W0 fun cs M1 vs B1 as1 H1 hh g1 S1 o1 => ?_⟩
  split at hh
  · rename_i i j
    obtain _ | ⟨o1, _ | ⟨o2, _ | _⟩⟩ := o1
    cases (show Rp X.K B1 _ (.int i) from o1)
    cases (show Rp X.K B1 _ (.int j) from o2)
    exact ⟨i, j, rfl, hh.1, q _ M1 B1 as1 H1 _ hh.2 g1 S1 runs_rng⟩
  · cases hh
theorem yi_enum {elts : List Expr} {kk : Nat} {tpos : Pos} (hg : Gl X "enumerate") (hm : X.mg "enumerate" = none) (ha : YA X [e] pa) (hs : starEach [e] X.env = [(false, eval e X.env)] := by rfl) :
    YI X (.Tuple elts kk tpos) (.Call (.Name "enumerate" p0) [e] [] pos) (iEnm pa) := by
  obtain ⟨t, h1, h2⟩ := ha
  refine ⟨_, pi_enum hg hm h1 hs, fun ρ M Qh h B as σ H R S L W0 q => h2 ρ M _ h B as σ H _ S L W0 fun cs M1 vs B1 as1 H1 hh g1 S1 o1 => ?_⟩
  split at hh
  · rename_i c
    obtain _ | ⟨o1, _ | _⟩ := o1
    split at hh
    · rename_i xs M2 e
      obtain ⟨B2, l, ws, S2, g2, rfl, hl, r⟩ := asL_ok S1 o1 e
      exact ⟨l, ws, rfl, .inl (.inl (S2.sub _ _ hl)), q _ M2 B2 as1 H1 _ hh (g1.trans g2) S2 (runs_enum hl r)⟩
    · cases hh
  · cases hh
theorem yi_zip {elts : List Expr} {kk : Nat} {tpos : Pos} (hg : Gl X "zip") (hm : X.mg "zip" = none) (ha : YA X [e, e2] pa) (hs : starEach [e, e2] X.env = (false, eval e X.env) :: starEach [e2] X.env := by rfl)
    (hpl : (backTo pos (starEach [e2] X.env)).any (·.1) = false := by rfl) : YI X (.Tuple elts kk tpos) (.Call (.Name "zip" p0) [e, e2] [] pos) (iZp pa) := by
  obtain ⟨t, h1, h2⟩ := ha
  refine ⟨_, pi_zip hg hm h1 hs hpl, fun ρ M Qh h B as σ H R S L W0 q => h2 ρ M _ h B as σ H _ S L W0 fun cs M1 vs B1 as1 H1 hh g1 S1 o1 => ?_⟩
  split at hh
  · rename_i xs ys M2 ed
    obtain ⟨B2, S2, g2, r⟩ := asDs_ok S1 o1 ed
    obtain _ | ⟨r1, _ | ⟨r2, _ | _⟩⟩ := r
    cases r1 with
    | lst a1 a2 =>
      cases r2 with
      | lst b1 b2 => exact ⟨_, _, _, _, rfl, .inl (.inl (S2.sub _ _ a1)), .inl (.inl (S2.sub _ _ b1)), q _ M2 B2 as1 H1 _ hh (g1.trans g2) S2 (runs_zip a1 a2 b1 b2)⟩
  · cases hh
end

/-! ## list comprehensions -/
def wipeR (ρ : Rho) : List Nat → Rho
  | [] => ρ
  | v :: vs => (wipeR ρ vs).set v none
theorem wipe_in {σ : L2.St} {i : Nat} : ∀ {vs : List Nat}, i ∈ vs → i < σ.length → (wipe σ vs)[i]? = some none
  | [], h, _ => by cases h
  | v :: vs, h, hl => by
    unfold wipe
    by_cases e : v = i
    · subst e
      exact List.getElem?_set_self (by rw [wipe_length]; exact hl)
    · rw [List.getElem?_set_ne e]
      exact wipe_in ((List.mem_cons.mp h).resolve_left fun z => e z.symm) hl
theorem wipe_ext {σ τ : L2.St} {vs : List Nat} (hl : σ.length = τ.length) (h : ∀ i, i ∉ vs → σ[i]? = τ[i]?) : wipe σ vs = wipe τ vs := by
  apply List.ext_getElem?
  intro i
  by_cases hi : i ∈ vs
  · by_cases hb : i < σ.length
    · rw [wipe_in hi hb, wipe_in hi (by rw [← hl]; exact hb)]
    · rw [List.getElem?_eq_none (by rw [wipe_length]; omega), List.getElem?_eq_none (by rw [wipe_length]; omega)]
  · rw [wipe_out hi, wipe_out hi, h i hi]
theorem wipe_idem {σ : L2.St} {vs : List Nat} : wipe (wipe σ vs) vs = wipe σ vs := wipe_ext (wipe_length σ vs) fun i hi => wipe_out hi
theorem wipeR_some {ρ : Rho} {i : Nat} {c : Cell} : ∀ {vs : List Nat}, (wipeR ρ vs)[i]? = some (some c) → ρ[i]? = some (some c) ∧ i ∉ vs
  | [], h => ⟨h, by simp⟩
  | v :: vs, h => by
    unfold wipeR at h
    by_cases e : v = i
    · subst e
      by_cases hv : v < (wipeR ρ vs).length
      · rw [List.getElem?_set_self hv] at h
        cases h
      · rw [List.getElem?_eq_none (by simpa using hv)] at h
        cases h
    · rw [List.getElem?_set_ne e] at h
      obtain ⟨h1, h2⟩ := wipeR_some h
      exact ⟨h1, by simp only [List.mem_cons, not_or]; exact ⟨fun z => e z.symm, h2⟩⟩
theorem wipeR_len {ρ : Rho} : ∀ {vs : List Nat}, (wipeR ρ vs).length = ρ.length
  | [] => rfl
  | v :: vs => by unfold wipeR; rw [List.length_set, wipeR_len]
theorem Slots.wipe {K : PySem.W.Frag} {B : Hp} {as : List Addr} {ρ : Rho} {σ : L2.St} (h : Slots K B as ρ σ) (vs : List Nat) : Slots K B as (wipeR ρ vs) (wipe σ vs) := by
  refine ⟨by rw [wipeR_len, wipe_length]; exact h.len, fun i c e => ?_⟩
  obtain ⟨h1, h2⟩ := wipeR_some e
  rw [wipe_out h2]
  exact h.at_ i c h1
/-- a target that only stores into its own slots -/
def SimGw (vs : List Nat) (Z : Wi) (tg : TG) (p : Pg) : Prop := ∀ c ρ M Qh, p c ρ M Qh → ∀ B as v σ H (Q : L2.St → Hp → Prop), Sat Z.K M B as H → Slots Z.K B as ρ σ → CellOk Z.K B as v c →
  (∀ ρ' M' B' as' σ' H', Qh ρ' M' → Gr B as H B' as' H' → Sat Z.K M' B' as' H' → Slots Z.K B' as' ρ' σ' → L2.wipe σ' vs = L2.wipe σ vs → Q σ' H') → tg v σ H Q
def SimGsw (vs : List Nat) (Z : Wi) (tg : TGs) (p : Pgs) : Prop := ∀ xs ρ M Qh, p xs ρ M Qh → ∀ B as us σ H (Q : L2.St → Hp → Prop), Sat Z.K M B as H → Slots Z.K B as ρ σ → RpAll Z.K B us xs →
  (∀ ρ' M' B' as' σ' H', Qh ρ' M' → Gr B as H B' as' H' → Sat Z.K M' B' as' H' → Slots Z.K B' as' ρ' σ' → L2.wipe σ' vs = L2.wipe σ vs → Q σ' H') → tg us σ H Q
structure YGw (vs : List Nat) (X : Cy) (e : Expr) (t : TG) (p : Pg) : Prop where
  pg : PG X e t
  sim : SimGw vs X.z t p
structure YGsw (vs : List Nat) (X : Cy) (es : List Expr) (t : TGs) (p : Pgs) : Prop where
  pg : PGs X es t
  sim : SimGsw vs X.z t p
section
variable {X : Cy} {vs : List Nat} {e : Expr} {es : List Expr} {g : Pg} {gs : Pgs} {tg : TG} {tgs : TGs} {pos : Pos}
theorem ygw_name {i : Nat} {x : Str} (hi : i ∈ vs) (h : PG X (.Name x pos) (gName i)) : YGw vs X (.Name x pos) (gName i) (gNm i) := ⟨h, fun c ρ M Qh h B as v σ H Q S L o q =>
  q _ M B as _ H h S.gr S (L.set o) (wipe_ext (by simp) fun j hj => List.getElem?_set_ne fun z : i = j => hj (by rw [← z]; exact hi))⟩
theorem ygsw_nil : YGsw vs X [] gNil gsNil := ⟨pgs_nil, fun xs ρ M Qh h B as us σ H Q S L o q => by
  cases xs with
  | nil =>
    cases o
    exact ⟨rfl, q ρ M B as σ H h S.gr S L rfl⟩
  | cons _ _ => cases h⟩
theorem ygsw_cons (h1 : YGw vs X e tg g) (h2 : YGsw vs X es tgs gs) (hs : (assignEach (e :: es) X.env).map (·.2) = assign e X.env :: (assignEach es X.env).map (·.2) := by rfl) : YGsw vs X (e :: es) (gCons tg tgs) (gsCons g gs) :=
  ⟨pgs_cons h1.pg h2.pg hs, fun xs ρ M Qh h B as us σ H Q S L o q => by
    cases xs with
    | nil => cases h
    | cons x r =>
      obtain _ | ⟨o1, o2⟩ := o
      exact ⟨_, _, rfl, h1.sim (.d x) ρ M _ h B as _ σ H _ S L o1 fun ρ' M' B' as' σ' H' h' g' S' L' w' => h2.sim r ρ' M' Qh h' B' as' _ σ' H' Q S' L' (o2.mono g'.b) fun ρ2 M2 B2 as2 σ2 H2 h3 g3 S3 L3 w3 => q ρ2 M2 B2 as2 σ2 H2 h3 (g'.trans g3) S3 L3 (w3.trans w')⟩⟩
theorem ygw_tup {K : PySem.W.Frag} (hK : X.K = K) {k n : Nat} (hc : X.calm = true) (h : YGsw vs X es tgs gs) (hn : (assignEach es X.env).length = n := by rfl) (hst : (assignEach es X.env).findIdx? (·.1) = none := by rfl) : YGw vs X (.Tuple es k pos) (gTup K n tgs) (gTp n gs) := by
  subst hK
  refine ⟨pg_tup hc h.pg hn hst, fun c ρ M Qh hh B as v σ H Q S L o q => ?_⟩
  unfold gTp at hh
  split at hh
  · rename_i xs
    obtain ⟨l, ws, rfl, hl, r⟩ := deref_tuple S o (show deref (.d (.tuple xs)) M = some (.tuple xs) from rfl)
    exact ⟨l, ws, rfl, sqT_mono S.sub hl, by rw [r.len]; exact hh.1, h.sim xs ρ M Qh hh.2 B as ws σ H Q S L r q⟩
  · cases hh
end
/-- the block of a comprehension: nothing is raised in it -/
abbrev blkY (X : Cy) (s : Shared) (H : Hp) (scope : Scope) (cenv : Env) (fp : List Addr) : Cy := { toCx := X.toCx.blk s H scope cenv fp, W := fun _ _ _ _ => False, Wh := fun _ _ _ => False }
/-- the reading that the wish itself tells: one for every block -/
def canE (Z : Wi) (p : Px) : TE := fun σ H Q => ∃ ρ M Qh B as, p ρ M Qh ∧ Sat Z.K M B as H ∧ Slots Z.K B as ρ σ ∧ ExOk Z B as H ∧ ∀ c M' v B' as' H', Qh c M' → Gr B as H B' as' H' → Sat Z.K M' B' as' H' → CellOk Z.K B' as' v c → Q v H'
def canT (Z : Wi) (p : Pt) : TT := fun σ H Q => ∃ ρ M Qh B as, p ρ M Qh ∧ Sat Z.K M B as H ∧ Slots Z.K B as ρ σ ∧ ExOk Z B as H ∧ ∀ b M' B' as' H', Qh b M' → Gr B as H B' as' H' → Sat Z.K M' B' as' H' → Q b H'
theorem can_e {X : Cy} {e : Expr} {p : Px} (h : YE X e p) : PE X e (canE X.z p) := let ⟨t, h1, h2⟩ := h; ⟨fun pins s σ H Q I ⟨ρ, M, Qh, B, as, hp, S, L, W0, q⟩ => h1.run pins s σ H Q I (h2 ρ M Qh hp B as σ H Q S L W0 q)⟩
structure YTs (X : Cy) (ifs : List Expr) (p : Pt) : Prop where ex : ∃ t, PTs X ifs t ∧ SimT X.z t p
def pYes : Pt := fun _ M Q => Q true M
theorem yts_nil {X : Cy} : YTs X [] pYes := ⟨_, pts_nil, fun ρ M Qh h B as σ H Q S L W0 q => q true M B as H h S.gr S⟩
theorem yts_one {X : Cy} {c : Expr} {p : Pt} (h : YT X c p) : YTs X [c] p := let ⟨_, h1, h2⟩ := h; ⟨_, pts_one h1, h2⟩
theorem can_t {X : Cy} {ifs : List Expr} {p : Pt} (h : YTs X ifs p) : PTs X ifs (canT X.z p) := let ⟨t, h1, h2⟩ := h; ⟨fun pins s σ H Q I ⟨ρ, M, Qh, B, as, hp, S, L, W0, q⟩ => h1.run pins s σ H Q I (h2 ρ M Qh hp B as σ H Q S L W0 q)⟩
def runC (g : Pg) (pt : Pt) (pe : Px) (ρ : Rho) (Q : Qx) : List PyData → List PyData → Mem → Prop
  | [], acc, M => Q (.r M.length) (M ++ [.live acc])
  | x :: xs, acc, M => g (.d x) ρ M fun ρ2 M2 => pt ρ2 M2 fun b M3 => (b = true → pe ρ2 M3 fun c M4 => match asD c M4 with
    | some (d, M5) => acc.length < sizeLine ∧ runC g pt pe ρ Q xs (acc ++ [d]) M5
    | none => False) ∧ (b = false → runC g pt pe ρ Q xs acc M3)
def pLc (pi : Pi) (g : Pg) (pt : Pt) (pe : Px) (vs : List Nat) : Px := fun ρ M Q => pi ρ M fun xs M1 => runC g pt pe (wipeR ρ vs) Q xs [] M1
section
variable {K : PySem.W.Frag} {M : Mem} {B H : Hp} {as : List Addr} {D : Addr} {u : HO}
/-- an object that is not of this world changes -/
theorem Sat.beside (S : Sat K M B as H) (hD : D ∉ as) (hB : B D = none) : Sat K M B as (upd H D u) := by
  refine ⟨fun b x e => ?_, fun n c l h1 h2 => ?_, S.nd, S.len, fun l hl => ?_⟩
  · rw [upd_ne (ne_of_none e hB)]
    exact S.sub b x e
  · have hl : l ≠ D := fun z => hD (z ▸ List.mem_of_getElem? h2)
    have := S.mc n c l h1 h2
    cases c with
    | live xs =>
      obtain ⟨p, ws, q, r⟩ := this
      exact ⟨p, ws, by rw [upd_ne hl]; exact q, r⟩
    | dc xs =>
      obtain ⟨p, ws, q, r⟩ := this
      exact ⟨p, ws, by rw [upd_ne hl]; exact q, r⟩
    | fz xs => exact this
  · have hn : l ≠ D := fun z => hD (z ▸ hl)
    rw [upd_ne hn]
    exact S.free l hl
theorem Gr.beside {B' H' : Hp} {as' : List Addr} (g : Gr B as H B' as' H') (h0 : H D = none) (hD : D ∉ as') : Gr B as H B' as' (upd H' D u) := by
  refine ⟨g.b, g.a, fun l o h1 h2 => ?_, g.n, fun l hl => ?_⟩
  · rw [upd_ne (ne_of_none h2 h0)]
    exact g.h l o h1 h2
  · obtain ⟨t, e, _⟩ := g.a
    have hn : l ≠ D := fun z => hD (by rw [e]; exact List.mem_append_left _ (z ▸ hl))
    rw [upd_ne hn]
    exact g.k l hl
/-- what stands beside stays beside -/
theorem Gr.side {B' H' : Hp} {as' : List Addr} (g : Gr B as H B' as' H') (hD : D ∉ as) (hB : B D = none) {o : HO} (h : H D = some o) : D ∉ as' ∧ B' D = none ∧ H' D = some o := by
  obtain ⟨t, e, f⟩ := g.a
  refine ⟨fun z => ?_, ?_, g.h D o hD h⟩
  · rw [e] at z
    rcases List.mem_append.mp z with q | q
    · exact hD q
    · rw [f D q] at h
      cases h
  · cases q : B' D with
    | none => rfl
    | some x =>
      rcases g.n D hB (by rw [q]; exact nofun) with z | z
      · rw [z] at h
        cases h
      · exact absurd z hD
end
theorem sim_lc {Z Zi : Wi} {wi : TI} {pi : Pi} {tg : TG} {g : Pg} {tt : TT} {pt : Pt} {te : TE} {pe : Px} {vs : List Nat} (hK : Zi.K = Z.K) (hW : ∀ x ρ M, ¬ Zi.Wh x ρ M) (h1 : SimI Z wi pi) (h2 : SimGw vs Zi tg g) (h3 : SimT Zi tt pt) (h4 : Sim Zi te pe) : Sim Z (tLc wi tg tt te vs) (pLc pi g pt pe vs) := fun ρ M Qh h B as σ H Q S L W0 q =>
  h1 ρ M _ h B as σ H _ S L W0 fun xs M1 B1 as1 H1 J hr g1 S1 R => by
    have noX : ∀ B as H, ExOk Zi B as H := fun B as H => ⟨fun x ρ M _ _ _ _ _ h => absurd h (hW x ρ M)⟩
    intro D hD
    have D1 : D ∉ as1 := fun z => S1.free D z hD
    have b1 : B1 D = none := by
      cases e : B1 D with
      | none => rfl
      | some o =>
        have := S1.sub D o e
        rw [hD] at this
        cases this
    refine ⟨fun i m H' => m = xs.length - i ∧ i ≤ xs.length ∧ ∃ acc accV M' B' as', runC g pt pe (wipeR ρ vs) Qh (xs.drop i) acc M' ∧ Gr B1 as1 H1 B' as' H' ∧ Sat Z.K M' B' as' H' ∧ D ∉ as' ∧ B' D = none ∧ H' D = some (.lst accV) ∧ RpAll Z.K B' accV acc,
      ⟨xs.length, by simp, Nat.zero_le _, [], [], M1, B1, as1, hr, S1.gr.beside hD D1, S1.beside D1 b1, D1, b1, upd_same, .nil⟩, ?_⟩
    rintro i m H' ⟨rfl, hi, acc, accV, M', B', as', hr', g', S', Da, Db, Dh, ra⟩
    by_cases hlt : i < xs.length
    · have ex : xs[i]? = some xs[i] := List.getElem?_eq_getElem hlt
      obtain ⟨go, yl⟩ := R.turn i _ M' B' as' H' ex g'.b S'
      rw [List.drop_eq_getElem_cons hlt] at hr'
      refine .inr ⟨go, fun H2 => i + 1 ≤ xs.length ∧ ∃ acc accV M' B' as', runC g pt pe (wipeR ρ vs) Qh (xs.drop (i + 1)) acc M' ∧ Gr B1 as1 H1 B' as' H2 ∧ Sat Z.K M' B' as' H2 ∧ D ∉ as' ∧ B' D = none ∧ H2 D = some (.lst accV) ∧ RpAll Z.K B' accV acc,
        fun H2 z => ⟨xs.length - (i + 1), by omega, rfl, z⟩, fun v H2 y => ?_⟩
      obtain ⟨B2, S2, g2, r2⟩ := yl v H2 y
      rw [← hK] at S2 r2
      have L2' : Slots Zi.K B2 as' (wipeR ρ vs) (wipe σ vs) := by
        rw [hK]
        exact (((L.mono g1).mono g').mono g2).wipe vs
      refine h2 (.d xs[i]) (wipeR ρ vs) M' _ hr' B2 as' v (wipe σ vs) H2 _ S2 L2' r2 fun ρ3 M3 B3 as3 σ3 H3 h3' g3 S3 L3 w3 => ⟨w3.trans wipe_idem, ?_⟩
      refine h3 ρ3 M3 _ h3' B3 as3 σ3 H3 _ S3 L3 (noX _ _ _) fun b M4 B4 as4 H4 h4' g4 S4 => ?_
      have gt := (g2.trans g3).trans g4
      cases b with
      | true =>
        show te σ3 H4 _
        refine h4 ρ3 M4 _ (h4'.1 rfl) B4 as4 σ3 H4 _ S4 (L3.mono g4) (noX _ _ _) fun c M5 v5 B5 as5 H5 h5 g5 S5 o5 => ?_
        split at h5
        · rename_i d M6 e
          obtain ⟨B6, S6, g6, r6⟩ := asD_ok S5 o5 e
          have ga := (gt.trans g5).trans g6
          obtain ⟨s1, s2, s3⟩ := ga.side Da Db Dh
          rw [hK] at S6 r6
          exact ⟨accV, s3, by rw [ra.len]; exact h5.1, hlt, acc ++ [d], accV ++ [v5], M6, B6, as5, h5.2, (g'.trans ga).beside hD s1, S6.beside s1 s2, s1, s2, upd_same, (ra.mono ga.b).append (.one r6)⟩
        · cases h5
      | false =>
        obtain ⟨s1, s2, s3⟩ := gt.side Da Db Dh
        rw [hK] at S4
        exact ⟨hlt, acc, accV, M4, B4, as4, h4'.2 rfl, g'.trans gt, S4, s1, s2, s3, ra.mono gt.b⟩
    · have hi' : i = xs.length := by omega
      subst hi'
      rw [List.drop_length] at hr'
      obtain ⟨S3, e3⟩ := S'.adopt Da Db Dh ra
      refine .inl ⟨R.stop M' B' as' H' g'.b S', q _ _ _ B' (as' ++ [D]) H' hr' (g1.trans ⟨g'.b, ?_, g'.h, g'.n, g'.k⟩) S3 ⟨D, e3, rfl⟩⟩
      obtain ⟨t, e, f⟩ := g'.a
      refine ⟨t ++ [D], by rw [e, List.append_assoc], fun l hl => ?_⟩
      rcases List.mem_append.mp hl with z | z
      · exact f l z
      · rw [List.mem_singleton.mp z]
        exact hD
theorem y_lc {X : Cy} {elt tg iter : Expr} {ifs : List Expr} {scope : Scope} {own : List (Str × Nat)} {pos : Pos} {pi : Pi} {tgt : TG} {g : Pg} {pt : Pt} {pe : Px} (hc : X.calm = true) (hN : X.N.Nodup) (hi : YI X tg iter pi) (ok : BlkOk X.N X.env.scope scope own)
    (hg : ∀ s H C cl fp, YGw (own.map (·.2)) (blkY X s H scope (compEnvC scope cl C X.env) fp) tg tgt g) (ht : ∀ s H C cl fp, YTs (blkY X s H scope (compEnvC scope cl C X.env) fp) ifs pt)
    (he : ∀ s H C cl fp, YE (blkY X s H scope (compEnvC scope cl C X.env) fp) elt pe) (hs : ∀ x, foldedSetIterable iter X.env x = pure x := by intro _; rfl) :
    YE X (.ListComp elt [⟨tg, iter, ifs, 0⟩] scope pos) (pLc pi g pt pe (own.map (·.2))) := by
  obtain ⟨ti, i1, i2⟩ := hi
  refine ⟨_, pe_lc (te := canE ⟨X.K, fun _ _ _ _ => False, fun _ _ _ => False⟩ pe) (tt := canT ⟨X.K, fun _ _ _ _ => False, fun _ _ _ => False⟩ pt) hc hN i1 ok (fun s H C cl fp => (hg s H C cl fp).pg) (fun s H C cl fp => can_t (ht s H C cl fp)) (fun s H C cl fp => can_e (he s H C cl fp)) hs, ?_⟩
  refine sim_lc (Zi := ⟨X.K, fun _ _ _ _ => False, fun _ _ _ => False⟩) rfl (fun _ _ _ h => h) i2 ?_ ?_ ?_
  · exact (hg X.s_0 X.H_0 X.env.locals [] []).sim
  · exact fun ρ M Qh h B as σ H Q S L W0 q => ⟨ρ, M, Qh, B, as, h, S, L, W0, q⟩
  · exact fun ρ M Qh h B as σ H Q S L W0 q => ⟨ρ, M, Qh, B, as, h, S, L, W0, q⟩
end Kt

set_option Elab.async false
set_option linter.all false
set_option maxRecDepth 100000
set_option maxHeartbeats 2000000
namespace Kt
open PySem PySem.Spec PyProof.Rows L2

/-! ## calls of defs, in the text -/
section
variable {X : Cx} {ct : CXT} {k : Nat} {f : Addr} {fd : FuncData} {ps ks : List Str} {sp : Sp} {ds : List Value} {dvs : List V} {E : L2.St → XK} {x : Str} {p pos : Pos} {e : Expr} {es : List Expr} {kws : List Keyword} {t tk : TA}
theorem runGS {pins : List (Addr × Obj)} {σ : L2.St} {H : Hp} {s : Shared} {Q : VK} {us : List Value} {ar : Args} {vs : List V} (F : FnG X.prog X.w X.K X.mg X.base ct k f fd ps sp) (hg : X.A.guards = some []) (hr : Room k X.A) (hx : PassesAt ct X σ (E σ))
    (I : Inv X pins σ H s) (hb : us.length = ps.length → BindsTo s fd ar (ps.zip us)) (r : Vals vs us) (h : sp vs H Q (E σ)) : wpAny (model X.prog X.w) X.A (call (.ref f) ar.pos ar.kw) (EP X pins σ Q) X.xe s := by
  refine wpAny_call (codeAny_mono (F.go X.A X.stack s H ar us vs Q (E σ) hg hr I.env0 (hb (by rw [← r.length]; exact F.cnt _ _ _ _ h)) r h) fun q s' hq => ?_)
  match q, hq with
  | .error e, hq => exact hx pins H s e s' I hq
  | .ok (.ret u), hq => exact I.after hq
  | .ok .next, hq => cases hq
  | .ok .brk, hq => cases hq
  | .ok .cont, hq => cases hq
theorem pe_callGS (F : FnG X.prog X.w X.K X.mg X.base ct k f fd ps sp) (hg : X.A.guards = some []) (hr : Room k X.A) (gl : Gl X x) (hm : X.mg x = some (.ref f)) (hk : PySem.W.keepIn X.K (.ref f) = true) (hb : Binds X.K fd ps ds) (hd : Vals dvs ds) (hx : ∀ σ, PassesAt ct X σ (E σ))
    (ha : PA X (e :: es) t) (hdb : (x == ("__debug__" : Str)) = false := by decide) (he : starEach (e :: es) X.env = (false, eval e X.env) :: starEach es X.env := by rfl) (hpl : (backTo pos (starEach es X.env)).any (·.1) = false := by rfl) :
    PE X (.Call (.Name x p) (e :: es) [] pos) (tCallSD sp dvs E t) :=
  ⟨fun pins s σ H Q I h => wpAny_Call_Name_kw (ld_glob I gl hm (PySem.W.callWith_K (h₀ := X.base) I.ok.mod.kin hk (thn (ha.run pos pins s σ H _ I h) fun us s1 ⟨vs, H1, I1, r, q⟩ =>
    ⟨I1.kIn, runGS (ar := ⟨us, []⟩) (us := us ++ ds) F hg hr (hx σ) I1 (fun hl => hb s1 us I1.kIn hl) (r.append hd) q⟩) he hpl) hdb)⟩
theorem pe_callGS0 (F : FnG X.prog X.w X.K X.mg X.base ct k f fd ps sp) (hg : X.A.guards = some []) (hr : Room k X.A) (gl : Gl X x) (hm : X.mg x = some (.ref f)) (hk : PySem.W.keepIn X.K (.ref f) = true) (hb : Binds X.K fd ps ds) (hd : Vals dvs ds) (hx : ∀ σ, PassesAt ct X σ (E σ))
    (hdb : (x == ("__debug__" : Str)) = false := by decide) : PE X (.Call (.Name x p) [] [] pos) (tCallSD sp dvs E tNil) :=
  ⟨fun pins s σ H Q I h => wpAny_Call_Name_kw (ld_glob I gl hm (PySem.W.callWith_K0 I.kIn hk (runGS (ar := ⟨[], []⟩) (us := [] ++ ds) F hg hr (hx σ) I (fun hl => hb s [] I.kIn hl) (by exact hd) h)) hdb)⟩
def tCallKS (sp : Sp) (gV : List V → List V → List V) (E : L2.St → XK) (t tk : TA) : TE := fun σ H Q => t σ H fun vs H1 => tk σ H1 fun zs H2 => sp (gV vs zs) H2 Q (E σ)
variable {g : List Value → List Value → List Value} {gV : List V → List V → List V}
theorem pe_callGSK (F : FnG X.prog X.w X.K X.mg X.base ct k f fd ps sp) (hgu : X.A.guards = some []) (hr : Room k X.A) (gl : Gl X x) (hm : X.mg x = some (.ref f)) (hk : PySem.W.keepIn X.K (.ref f) = true) (hb : KBinds X.K fd ps ks g gV) (hx : ∀ σ, PassesAt ct X σ (E σ))
    (hkw : PK X kws tk) (hall : (backToKw pos (keywordEach kws X.env)).all (·.1.isSome) = true := by rfl) (hks : (backToKw pos (keywordEach kws X.env)).filterMap (·.1) = ks := by rfl)
    (hdb : (x == ("__debug__" : Str)) = false := by decide)
    (hpl : ((backTo pos (starEach [] X.env)).any (·.1) || (backToKw pos (keywordEach kws X.env)).any (·.1.isNone)) = false := by rfl) :
    PE X (.Call (.Name x p) [] kws pos) (tCallKS sp gV E tNil tk) :=
  ⟨fun pins s σ H Q I h => wpAny_Call_Name_kw (ld_glob I gl hm (PySem.W.callWith_KW0 (h₀ := X.base) I.ok.mod.kin hk hall (thn (hkw.run pos pins s σ H _ I h) fun ws s2 ⟨zs, H2, I2, rz, q2⟩ => ⟨I2.kIn, by
      rw [hks]
      exact runGS (ar := ⟨[], ks.zip ws⟩) F hgu hr (hx σ) I2 (fun hl => hb.to s2 [] ws I2.kIn hl) (hb.rel (vs := []) (us := []) .nil rz) q2⟩) hpl) hdb)⟩
end
/-- keywords alone, put in the parameters' order -/
def permV {α : Type} (d : α) (n : Nat) (ix : List Nat) (ws : List α) : List α := if ws.length = n then ix.map fun i => ws.getD i d else []
theorem permV_vals {n : Nat} {ix : List Nat} {zs : List V} {ws : List Value} (h : Vals zs ws) : Vals (permV V.non n ix zs) (permV Value.none n ix ws) := by
  unfold permV
  rw [h.length]
  split
  · induction ix with
    | nil => exact .nil
    | cons i ix ih =>
      refine .cons ?_ ih
      show RelV (zs.getD i V.non) (ws.getD i Value.none)
      rw [List.getD_eq_getElem?_getD, List.getD_eq_getElem?_getD]
      cases e : zs[i]? with
      | none => rw [h.none_of e]; exact rfl
      | some z =>
        obtain ⟨u, h1, h2⟩ := h.get e
        rw [h1]
        exact h2
  · exact .nil
/-- bnd: fun s w0 .. => .of_eq rfl -/
theorem kbinds {K : PySem.W.Frag} {fd : FuncData} {ps ks : List Str} {n : Nat} {ix : List Nat} (hp : ps ≠ []) (bnd : ∀ (s : Shared) (ws : List Value), ws.length = n → BindsTo s fd ⟨[], ks.zip ws⟩ (ps.zip (ix.map fun i => ws.getD i .none))) :
    KBinds K fd ps ks (fun us ws => if us = [] then permV Value.none n ix ws else []) (fun vs zs => if vs = [] then permV V.non n ix zs else []) where
  to := fun s us ws _ h => by
    by_cases e : us = []
    · subst e
      rw [if_pos rfl] at h ⊢
      unfold permV at h ⊢
      split at h
      · rename_i hn
        rw [if_pos hn]
        exact bnd s ws hn
      · exact absurd (List.eq_nil_of_length_eq_zero h.symm) hp
    · rw [if_neg e] at h
      exact absurd (List.eq_nil_of_length_eq_zero h.symm) hp
  rel := fun {vs us zs ws} hv hz => by
    cases hv with
    | nil => rw [if_pos rfl, if_pos rfl]; exact permV_vals hz
    | cons _ _ => rw [if_neg (by simp), if_neg (by simp)]; exact .nil
structure YK (X : Cy) (kws : List Keyword) (p : Pa) : Prop where ex : ∃ t, PK X kws t ∧ SimA X.z t p
def pCallK (n : Nat) (ix : List Nat) (g : Gs) (Wh : Xc → Rho → Mem → Prop) (pa : Pa) : Px := fun ρ M Q => pa ρ M fun cs M1 => gCall n g Wh ρ Q (permV (.d .none) ix.length ix cs) M1
theorem permV_cells {K : PySem.W.Frag} {B : Hp} {as : List Addr} {n : Nat} {ix : List Nat} {vs : List V} {cs : List Cell} (h : CellsOk K B as vs cs) : CellsOk K B as (permV V.non n ix vs) (permV (.d .none) n ix cs) := by
  have gt : ∀ {vs : List V} {cs : List Cell}, CellsOk K B as vs cs → ∀ i, CellOk K B as (vs.getD i .non) (cs.getD i (.d .none)) := fun {vs cs} h => by
    induction h with
    | nil => exact fun i => .non
    | cons h0 r ih =>
      intro i
      cases i with
      | zero => exact h0
      | succ i => exact ih i
  unfold permV
  rw [h.len]
  split
  · have mk : ∀ l : List Nat, CellsOk K B as (l.map fun i => vs.getD i V.non) (l.map fun i => cs.getD i (.d .none)) := fun l => by
      induction l with
      | nil => exact .nil
      | cons i l ih => exact .cons (gt h i) ih
    exact mk ix
  · exact .nil
section
variable {X : Cy} {k n : Nat} {g : Gs} {f : Addr} {fd : FuncData} {ps ks : List Str} {x : Str} {p pos : Pos} {e : Expr} {es : List Expr} {kws : List Keyword} {pa : Pa} {ix : List Nat}
theorem y_call (F : FnG X.prog X.w X.K X.mg X.base (L2.CX X.prog X.w) k f fd ps (spD X.K n g)) (hgu : X.A.guards = some []) (hr : Room k X.A) (gl : Gl X x) (hm : X.mg x = some (.ref f)) (hk : PySem.W.keepIn X.K (.ref f) = true) (hb : Binds X.K fd ps []) (tk : Takes X X.W)
    (ha : YA X (e :: es) pa) (hdb : (x == ("__debug__" : Str)) = false := by decide) (he : starEach (e :: es) X.env = (false, eval e X.env) :: starEach es X.env := by rfl) (hpl : (backTo pos (starEach es X.env)).any (·.1) = false := by rfl) :
    YE X (.Call (.Name x p) (e :: es) [] pos) (pCall n g X.Wh pa) := let ⟨_, a1, a2⟩ := ha; ⟨_, pe_callGS F hgu hr gl hm hk hb .nil (fun σ => passAt tk σ) a1 hdb he hpl, sim_call (Z := X.z) a2⟩
theorem y_callR (F : FnG X.prog X.w X.K X.mg X.base (L2.CX X.prog X.w) k f fd ps (spD X.K n g)) (hgu : X.A.guards = some []) (hr : Room k X.A) (gl : Gl X x) (hm : X.mg x = some (.ref f)) (hk : PySem.W.keepIn X.K (.ref f) = true) (hb : Binds X.K fd ps []) (tk : Takes X X.W)
    (ha : YA X (e :: es) pa) (hdb : (x == ("__debug__" : Str)) = false := by decide) (he : starEach (e :: es) X.env = (false, eval e X.env) :: starEach es X.env := by rfl) (hpl : (backTo pos (starEach es X.env)).any (·.1) = false := by rfl) :
    YE X (.Call (.Name x p) (e :: es) [] pos) (pCallR n g X.Wh pa) := let ⟨_, a1, a2⟩ := ha; ⟨_, pe_callGS F hgu hr gl hm hk hb .nil (fun σ => passAt tk σ) a1 hdb he hpl, sim_callR (Z := X.z) a2⟩
theorem y_call0 (F : FnG X.prog X.w X.K X.mg X.base (L2.CX X.prog X.w) k f fd ps (spD X.K n g)) (hgu : X.A.guards = some []) (hr : Room k X.A) (gl : Gl X x) (hm : X.mg x = some (.ref f)) (hk : PySem.W.keepIn X.K (.ref f) = true) (hb : Binds X.K fd ps []) (tk : Takes X X.W)
    (hdb : (x == ("__debug__" : Str)) = false := by decide) : YE X (.Call (.Name x p) [] [] pos) (pCall n g X.Wh pNil) := ⟨_, pe_callGS0 F hgu hr gl hm hk hb .nil (fun σ => passAt tk σ) hdb, sim_call (Z := X.z) simA_nil⟩
theorem yk_nil : YK X [] pNil := ⟨_, pk_nil, simA_nil⟩
theorem yk_cons {nm : Option Str} {kpos : Pos} {q : Px} (h : YE X e q) (hr : YK X kws pa) : YK X (⟨nm, e, kpos⟩ :: kws) (pCons q pa) := let ⟨_, a1, a2⟩ := h; let ⟨_, b1, b2⟩ := hr; ⟨_, pk_cons a1 b1, simA_cons a2 b2⟩
theorem y_callK (F : FnG X.prog X.w X.K X.mg X.base (L2.CX X.prog X.w) k f fd ps (spD X.K n g)) (hgu : X.A.guards = some []) (hr : Room k X.A) (gl : Gl X x) (hm : X.mg x = some (.ref f)) (hk : PySem.W.keepIn X.K (.ref f) = true)
    (hb : KBinds X.K fd ps ks (fun us ws => if us = [] then permV Value.none ix.length ix ws else []) (fun vs zs => if vs = [] then permV V.non ix.length ix zs else [])) (tk : Takes X X.W)
    (hkw : YK X kws pa) (hall : (backToKw pos (keywordEach kws X.env)).all (·.1.isSome) = true := by rfl) (hks : (backToKw pos (keywordEach kws X.env)).filterMap (·.1) = ks := by rfl)
    (hdb : (x == ("__debug__" : Str)) = false := by decide) (hpl : ((backTo pos (starEach [] X.env)).any (·.1) || (backToKw pos (keywordEach kws X.env)).any (·.1.isNone)) = false := by rfl) :
    YE X (.Call (.Name x p) [] kws pos) (pCallK n ix g X.Wh pa) := by
  obtain ⟨t, a1, a2⟩ := hkw
  refine ⟨_, pe_callGSK F hgu hr gl hm hk hb (fun σ => passAt tk σ) a1 hall hks hdb hpl, fun ρ M Qh hp B as σ H Q S L W0 q => ?_⟩
  show t σ H fun zs H2 => spD X.K n g (if ([] : List V) = [] then permV V.non ix.length ix zs else []) H2 Q (WE X.W σ)
  rw [show (fun zs H2 => spD X.K n g (if ([] : List V) = [] then permV V.non ix.length ix zs else []) H2 Q (WE X.W σ)) = fun zs H2 => spD X.K n g (permV V.non ix.length ix zs) H2 Q (WE X.W σ) from by funext zs H2; rw [if_pos rfl]]
  exact a2 ρ M _ hp B as σ H _ S L W0 fun cs M1 vs B1 as1 H1 h1 g1 S1 o1 => call_core (Z := X.z) S1 (L.mono g1) (W0.on g1) (permV_cells o1) h1 fun c M' v B' as' H' h g2 => q c M' v B' as' H' h (g1.trans g2)
end
end Kt

set_option Elab.async false
set_option linter.all false
set_option maxRecDepth 100000
set_option maxHeartbeats 2000000
namespace Kt
open PySem PySem.Spec PyProof.Rows L2

/-! ## a < b < c -/
def pChn (r r' : Pr2) (pa pb pc : Px) : Px := fun ρ M Q => pa ρ M fun x M1 => pb ρ M1 fun y M2 => r x y M2 fun z M3 => match z with
  | .d (.bool k) => (k = true → pc ρ M3 fun w M4 => r' y w M4 Q) ∧ (k = false → Q (.d (.bool false)) M3)
  | _ => False
section
variable {X : Cy} {a b c : Expr} {pa pb pc : Px} {r r' : Pr2} {pos : Pos}
theorem sim_chn {Z : Wi} {ra rb : R2} {ta tb tc : TE} (h : SimR Z.K ra r) (h' : SimR Z.K rb r') (ha : Sim Z ta pa) (hb : Sim Z tb pb) (hc : Sim Z tc pc) : Sim Z (tChain ra rb ta tb tc) (pChn r r' pa pb pc) := fun ρ M Qh hp B as σ H Q S L W0 q =>
  ha ρ M _ hp B as σ H _ S L W0 fun x M1 v1 B1 as1 H1 h1 g1 S1 o1 => hb ρ M1 _ h1 B1 as1 σ H1 _ S1 (L.mono g1) (W0.on g1) fun y M2 v2 B2 as2 H2 h2 g2 S2 o2 =>
    h x y M2 _ h2 B2 as2 v1 v2 H2 _ S2 (o1.mono g2) o2 fun z M3 v3 B3 as3 H3 h3 g3 S3 o3 => by
      split at h3
      · rename_i k
        cases (show Rp Z.K B3 v3 (.bool k) from o3)
        refine ⟨k, rfl, ?_⟩
        have g23 := (g1.trans g2).trans g3
        cases k with
        | true =>
          show tc σ H3 _
          exact hc ρ M3 _ (h3.1 rfl) B3 as3 σ H3 _ S3 (L.mono g23) (W0.on g23) fun w M4 v4 B4 as4 H4 h4 g4 S4 o4 => h' y w M4 Qh h4 B4 as4 v2 v4 H4 Q S4 ((o2.mono g3).mono g4) o4 fun c5 M5 v5 B5 as5 H5 h5 g5 S5 o5 =>
            q c5 M5 v5 B5 as5 H5 h5 ((g23.trans g4).trans g5) S5 o5
        | false => exact q _ M3 _ B3 as3 H3 (h3.2 rfl) g23 S3 (.bl false)
      · cases h3
theorem ychn {op op' : CmpOp} (ho : YOp X (compareOp op) r) (ho' : YOp X (compareOp op') r') (ha : YE X a pa) (hb : YE X b pb) (hc : YE X c pc) (hm : lastMarks [op, op'] [b, c] = false := by with_unfolding_all rfl) :
    YE X (.Compare a [op, op'] [b, c] pos) (pChn r r' pa pb pc) := let ⟨_, o1, o2⟩ := ho; let ⟨_, p1, p2⟩ := ho'; let ⟨_, a1, a2⟩ := ha; let ⟨_, b1, b2⟩ := hb; let ⟨_, c1, c2⟩ := hc; ⟨_, pe_chain o1 p1 a1 b1 c1 hm, sim_chn o2 p2 a2 b2 c2⟩
theorem yt_chn {op op' : CmpOp} (ho : YOp X (compareOp op) r) (ho' : YOp X (compareOp op') r') (ha : YE X a pa) (hb : YE X b pb) (hc : YE X c pc) (hm : lastMarks [op, op'] [b, c] = false := by with_unfolding_all rfl) :
    YT X (.Compare a [op, op'] [b, c] pos) (pTst (pChn r r' pa pb pc)) := let ⟨_, o1, o2⟩ := ho; let ⟨_, p1, p2⟩ := ho'; let ⟨_, a1, a2⟩ := ha; let ⟨_, b1, b2⟩ := hb; let ⟨_, c1, c2⟩ := hc; ⟨_, pt_chain o1 p1 a1 b1 c1 hm, simT_test (sim_chn o2 p2 a2 b2 c2)⟩
end

/-! ## xs.append(x), xs[i] = x -/
def isLst (c : Cell) (M : Mem) : Prop := match c with
  | .r n => ∃ xs, M[n]? = some (.live xs) ∨ M[n]? = some (.fz xs)
  | _ => False
def pApp (po pv : Px) : Ps := fun D ρ M => po ρ M fun c M1 => isLst c M1 ∧ pv ρ M1 fun x M2 => match c with
  | .r n => (match asD x M2 with
    | some (d, M3) => (match M3[n]? with
      | some (.live xs) => xs.length < sizeLine ∧ D.nx ρ (M3.set n (.live (xs ++ [d])))
      | _ => False)
    | none => False)
  | _ => False
def gIx (po pi : Px) : Pg := fun x ρ M Q => po ρ M fun c M1 => pi ρ M1 fun i M2 => match c, i with
  | .r n, .d (.int k) => (match asD x M2 with
    | some (d, M3) => (match M3[n]? with
      | some (.live xs) => (match ixN xs.length k with
        | some j => Q ρ (M3.set n (.live (xs.set j d)))
        | none => False)
      | _ => False)
    | none => False)
  | _, _ => False
section
variable {X : Cy} {o e i : Expr} {po pe pi : Px} {pos apos epos : Pos}
theorem y_app (ho : YE X o po) (he : YE X e pe) (hw : swapsWith (.Call (.Attribute o "append" apos) [e] [] pos) none epos.line X.env = pure false := by rfl)
    (hbase : attributeBase o "append" X.env (eval o X.env) = eval o X.env := by rfl)
    (hfew : ((backTo pos (starEach (e :: []) X.env)).all (fun x => !x.1) && (backToKw pos (keywordEach [] X.env)).all (fun x => x.1.isSome)
      && decide ((e :: []).length + ([] : List Keyword).length + (if ([] : List Keyword).isEmpty then 0 else 1) < 30)) = true := by rfl)
    (hline : (apos.endLine == pos.line) = true := by rfl) (hs : starEach (e :: []) X.env = (false, eval e X.env) :: starEach [] X.env := by rfl) (hplain : (backTo pos (starEach [] X.env)).any (·.1) = false := by rfl) :
    YS X (.Expr (.Call (.Attribute o "append" apos) [e] [] pos) epos) (pApp po pe) := by
  obtain ⟨to, o1, o2⟩ := ho
  obtain ⟨te, e1, e2⟩ := he
  refine ⟨_, ps_expr (pe_bm PySem.F.plainAttrs_list PySem.F.slot_list_append PySem.F.type_list_append mt_append o1 (pa_cons e1 pa_nil hs) hbase hfew hline hs hplain) hw, fun D ρ M h B as σ H D' S L W0 en => ?_⟩
  refine o2 ρ M _ h B as σ H _ S L W0 fun c M1 v B1 as1 H1 h1 g1 S1 c1 => ⟨?_, ?_⟩
  · have h0 := h1.1
    cases c with
    | r n =>
      obtain ⟨l, hl, rfl⟩ := c1
      have : ∃ ws, H1 l = some (.lst ws) := by
        obtain ⟨xs, hm | hm⟩ := h0
        · have mk := S1.mc n _ l hm hl
          exact ⟨_, mk.2.choose_spec.1⟩
        · have mk := S1.mc n _ l hm hl
          exact ⟨_, S1.sub _ _ mk.choose_spec.1⟩
      obtain ⟨ws, hws⟩ := this
      exact .inl ⟨rfl, ws, .inl (.inl hws)⟩
    | d x => cases h0
    | s ns => cases h0
    | t _ _ => cases h0
    | a _ => cases h0
  · have h1 := h1.2
    refine e2 ρ M1 _ h1 B1 as1 σ H1 _ S1 (L.mono g1) (W0.on g1) fun x M2 u B2 as2 H2 h2 g2 S2 c2 => ?_
    split at h2
    · rename_i n
      obtain ⟨l, hl, rfl⟩ := c1
      have hl2 := g2.pre hl
      split at h2
      · rename_i d M3 ed
        obtain ⟨B3, S3, g3, r3⟩ := asD_ok S2 c2 ed
        split at h2
        · rename_i xs hm
          have hl3 := g3.pre hl2
          obtain ⟨_, ws, hw2, rr⟩ := S3.mc _ _ l hm hl3
          obtain ⟨S4, g4⟩ := S3.put hm hl3 (rr.append (.one r3))
          have ga := ((g1.trans g2).trans g3).trans g4
          exact ⟨l, ws, u, rfl, rfl, hw2, by rw [rr.len]; exact h2.1, en.nx _ _ _ _ _ _ h2.2 ga S4 (L.mono ga)⟩
        · cases h2
      · cases h2
    · cases h2
/-- xs[i] = x -/
theorem yg_ix (ho : YE X o po) (hi : YE X i pi)
    (ha : ∀ v, assign (.Subscript o i pos) X.env v = (do
      let ov ← holding [v] (eval o X.env)
      let iv ← holding [v, ov] (eval i X.env)
      standAt pos
      holding [v, ov, iv] (setItem ov iv v)
      release [v, ov, iv] []) := by intro _; rfl) : YG X (.Subscript o i pos) (gIx po pi) := by
  obtain ⟨to, o1, o2⟩ := ho
  obtain ⟨ti, i1, i2⟩ := hi
  refine ⟨_, pg_sub o1 i1 set_list ha, fun x ρ M Qh h B as u σ H Q S L cx W0 q => ?_⟩
  refine o2 ρ M _ h B as σ H _ S L W0 fun c M1 v B1 as1 H1 h1 g1 S1 c1 => i2 ρ M1 _ h1 B1 as1 σ H1 _ S1 (L.mono g1) (W0.on g1) fun y M2 w B2 as2 H2 h2 g2 S2 c2 => ?_
  split at h2
  · rename_i n k
    obtain ⟨l, hl, rfl⟩ := c1
    cases (show Rp X.K B2 w (.int k) from c2)
    have hl2 := g2.pre hl
    split at h2
    · rename_i d M3 ed
      obtain ⟨B3, S3, g3, r3⟩ := asD_ok S2 ((cx.mono g1).mono g2) ed
      split at h2
      · rename_i xs hm
        have hl3 := g3.pre hl2
        obtain ⟨_, ws, hw2, rr⟩ := S3.mc n _ l hm hl3
        split at h2
        · rename_i j ej
          obtain ⟨S4, g4⟩ := S3.put hm hl3 (rr.set j r3)
          have ga := ((g1.trans g2).trans g3).trans g4
          exact ⟨l, ws, k, j, rfl, rfl, hw2, by rw [rr.len]; exact ej, q _ _ _ _ _ _ h2 ga S4 (L.mono ga)⟩
        · cases h2
      · cases h2
    · cases h2
  · cases h2
end

/-! ## sum, min of data, list(..), repr -/
def intsOf : List PyData → Option (List Int)
  | [] => some []
  | .int i :: r => match intsOf r with
    | some is => some (i :: is)
    | none => none
  | _ :: _ => none
theorem intsOf_eq : ∀ {xs : List PyData} {is : List Int}, intsOf xs = some is → xs = is.map .int
  | [], is, h => by cases h; rfl
  | .int i :: r, is, h => by
    unfold intsOf at h
    split at h
    · rename_i js e
      cases h
      rw [intsOf_eq e] <;> rfl
    · cases h
  | .none :: _, _, h => by cases h
  | .bool _ :: _, _, h => by cases h
  | .str _ :: _, _, h => by cases h
  | .list _ :: _, _, h => by cases h
  | .tuple _ :: _, _, h => by cases h
  | .dict _ :: _, _, h => by cases h
def rSm : Pr := fun cs M Q => match cs with
  | [c] => (match deref c M with
    | some (.list xs) => (match intsOf xs with
      | some is => Q (.d (.int is.sum)) M
      | none => False)
    | _ => False)
  | _ => False
def rMinD : Pr := fun cs M Q => match cs with
  | [c] => (match deref c M with
    | some (.list (x :: xs)) => (PySem.W.AlikeAll (x :: xs) ∧ PyData.canLay0 (.list (x :: xs)) = true ∧ (PyData.list (x :: xs)).depth ≤ 40) ∧ Q (.d (PySem.W.minD x xs)) M
    | _ => False)
  | _ => False
def rLs : Pr := fun cs M Q => match cs with
  | [c] => (match deref c M with
    | some (.list xs) => Q (.r M.length) (M ++ [.live xs])
    | some (.tuple xs) => Q (.r M.length) (M ++ [.live xs])
    | _ => False)
  | _ => False
theorem dpAll_len {K : PySem.W.Frag} {H : Hp} : ∀ {vs : List V} {ds : List PyData}, DpAll K H vs ds → vs.length = ds.length
  | _, _, .nil => rfl
  | _, _, .cons _ r => congrArg (· + 1) (dpAll_len r)
section
variable {X : Cy}
theorem xc_sum (hc : X.calm = true) : YCl X (.builtin "sum") rSm := by
  refine ⟨_, cr_sum hc, fun cs M Qh h B as vs H Q S o q => ?_⟩
  unfold rSm at h
  split at h
  · rename_i c
    obtain _ | ⟨o1, _ | _⟩ := o
    split at h
    · rename_i xs e
      obtain ⟨l, ws, rfl, hl, r⟩ := deref_list S o1 e
      split at h
      · rename_i is ei
        rw [intsOf_eq ei] at r
        refine ⟨l, is, rfl, ?_, q _ M _ B as H h S.gr S (.int _)⟩
        rw [← r.ints]
        exact .inl (.inl hl)
      · cases h
    · cases h
  · cases h
theorem xc_list : YCl X (.type "list") rLs := by
  refine ⟨_, call_list_of, fun cs M Qh h B as vs H Q S o q => ?_⟩
  unfold rLs at h
  split at h
  · rename_i c
    obtain _ | ⟨o1, _ | _⟩ := o
    split at h
    · rename_i xs e
      obtain ⟨l, ws, rfl, hl, r⟩ := deref_list S o1 e
      refine ⟨l, ws, rfl, .inl (.inl (.inl hl)), fun p np => ?_⟩
      obtain ⟨S', g', e'⟩ := S.newL np r
      exact q _ _ _ _ _ _ h g' S' ⟨p, e', rfl⟩
    · rename_i xs e
      obtain ⟨l, ws, rfl, hl, r⟩ := deref_tuple S o1 e
      refine ⟨l, ws, rfl, .inr (sqT_mono S.sub hl), fun p np => ?_⟩
      obtain ⟨S', g', e'⟩ := S.newL np r
      exact q _ _ _ _ _ _ h g' S' ⟨p, e', rfl⟩
    · cases h
  · cases h
def rMinR (K : PySem.W.Frag) : List V → Hp → VK → Prop := fun vs H Q => ∃ (l : Addr) (ws : List V) (x : PyData) (xs : List PyData), vs = [.ref l] ∧ H l = some (.lst ws) ∧ DpAll K H ws (x :: xs) ∧ PySem.W.AlikeAll (x :: xs) ∧ PyData.canLay0 (.list (x :: xs)) = true ∧ (PyData.list (x :: xs)).depth ≤ 40 ∧
  ∀ (i : Nat) (v : V), ws[i]? = some v → (x :: xs)[i]? = some (PySem.W.minD x xs) → Q v H
theorem call_minR {k : Nat} (room : Room k X.A) (hc : X.calm = true) : CallR X (.builtin "min") (rMinR X.K) := by
  intro pins s σ H vs us Q I r h
  obtain ⟨l, ws, x, xs, rfl, hl, hd, ha, hcl, hdp, q⟩ := h
  have hs : SqL X.K H l ws := .inl (.inl hl)
  obtain ⟨its, rv, pl, hz⟩ := I.list hs
  rw [Vals.ref1 r]
  obtain ⟨as, hr⟩ := Dp.readsAll I (x :: xs) ws its hd rv
  have hu : X.A.units + 1 + PyData.depthAll (x :: xs) < cLine := by
    have h1 := room.units
    simp only [PyData.depth] at hdp
    omega
  refine PySem.W.min_list_data (I.ok.hd hc) pl.isList (by simpa using hr) ha hu fun i v h' tk bs hv rd hk => ?_
  obtain ⟨wv, e1, rv1⟩ : ∃ wv, ws[i]? = some wv ∧ RelV wv v := by
    have hv' : its[i]? = some v := by simpa using hv
    cases e : ws[i]? with
    | none => rw [rv.none_of e] at hv'; cases hv'
    | some wv =>
      obtain ⟨u, h1, h2⟩ := rv.get e
      rw [hv'] at h1
      cases h1
      exact ⟨wv, rfl, h2⟩
  refine ⟨wv, H, I.kept hk, rv1, q i wv e1 ?_⟩
  obtain ⟨bs', rd', _, _, _⟩ := PySem.W.readsAll_atA (vs := its.toArray) (xs := x :: xs) (by simpa using hr) i v hv
  have eq1 := (PySem.Reads.unique (Reads.keeps hk rd') _ _ rd).1
  have hi : i < (x :: xs).length := by
    have hw := (List.getElem?_eq_some_iff.mp e1).1
    have := dpAll_len hd
    omega
  rw [← eq1, List.getD_eq_getElem?_getD, List.getElem?_eq_getElem hi] <;> rfl
theorem xc_minD {k : Nat} (room : Room k X.A) (hc : X.calm = true) : YCl X (.builtin "min") rMinD := by
  refine ⟨_, call_minR room hc, fun cs M Qh h B as vs H Q S o q => ?_⟩
  unfold rMinD at h
  split at h
  · rename_i c
    obtain _ | ⟨o1, _ | _⟩ := o
    split at h
    · rename_i x xs e
      obtain ⟨l, ws, rfl, hl, r⟩ := deref_list S o1 e
      have cl : PyData.canLayAll0 (x :: xs) = true := by simpa [PyData.canLay0] using h.1.2.1
      refine ⟨l, ws, x, xs, rfl, hl, (r.mono S.sub).dp cl, h.1.1, h.1.2.1, h.1.2.2, fun i v e1 e2 => ?_⟩
      obtain ⟨v', h1, h2⟩ := r.get e2
      rw [e1] at h1
      cases h1
      exact q _ M _ B as H h.2 S.gr S h2
    · cases h
  · cases h
/-! ### repr of data whose dicts are empty -/
mutual
def dOk : PyData → Bool
  | .none => true
  | .bool _ => true
  | .int _ => true
  | .str _ => true
  | .list xs => dOkAll xs
  | .tuple xs => dOkAll xs
  | .dict kvs => kvs.isEmpty
def dOkAll : List PyData → Bool
  | [] => true
  | x :: xs => dOk x && dOkAll xs
end
mutual
theorem dOk_of_lay : ∀ d : PyData, d.canLay0 = true → dOk d = true
  | .none, _ => by simp only [dOk]
  | .bool _, _ => by simp only [dOk]
  | .int _, _ => by simp only [dOk]
  | .str _, _ => by simp only [dOk]
  | .list xs, h => by
    simp only [dOk]
    exact dOkAll_of_lay xs (by simpa [PyData.canLay0] using h)
  | .tuple xs, h => by
    simp only [dOk]
    exact dOkAll_of_lay xs (by simpa [PyData.canLay0] using h)
  | .dict _, h => by simp [PyData.canLay0] at h
theorem dOkAll_of_lay : ∀ xs : List PyData, PyData.canLayAll0 xs = true → dOkAll xs = true
  | [], _ => by simp only [dOkAll]
  | x :: xs, h => by
    have h' : x.canLay0 = true ∧ PyData.canLayAll0 xs = true := by simpa [PyData.canLayAll0] using h
    simp only [dOkAll, dOk_of_lay x h'.1, dOkAll_of_lay xs h'.2, Bool.and_self]
end
def reprOk (d : PyData) : Prop := dOk d = true ∧ d.showable = true ∧ d.depth ≤ 40 ∧ d.shown.length ≤ sizeLine
def rRp : Pr := fun cs M Q => match cs with
  | [c] => (match deref c M with
    | some d => reprOk d ∧ Q (.d (.str d.shown)) M
    | none => False)
  | _ => False
def rReprR (K : PySem.W.Frag) : List V → Hp → VK → Prop := fun vs H Q => ∃ (v : V) (d : PyData), vs = [v] ∧ Rp K H v d ∧ reprOk d ∧ Q (.str d.shown) H
section
variable {X : Cx} {pins : List (Addr × Obj)} {σ : L2.St} {H : Hp} {s : Shared}
def RkOk (X : Cx) (s : Shared) (d : PyData) (u : Value) : Prop := ∃ as bs, Reads s.heap u d as ∧ ReadAtMost s.heap d.depth bs ∧ ReprK X.prog X.w bs s.heap d.depth u d.shown
def RkAllOk (X : Cx) (s : Shared) (ds : List PyData) (us : List Value) : Prop := ∃ as bs, ReadsAll s.heap us ds as ∧ ReadAtMost s.heap (PyData.depthAll ds) bs ∧ ReprAllK X.prog X.w bs s.heap (PyData.depthAll ds) us (PyData.shownAll ds)
theorem pairs_nil {P : Program} {w : World} {κ : Type} [DecidableEq κ] {knd : PySem.KeyKind P w κ} : ∀ {l : List DictEntry}, Pairs knd l [] → l = []
  | [], _ => rfl
  | _ :: _, h => by cases h
theorem rk_list {a : Addr} {xs : List PyData} {o : Obj} {its : List Value} {n : Nat} (ho : s.heap.get? a = some o) (hc : o.cls = .type "list") (hd : o.data = .seq its.toArray n) (h : RkAllOk X s xs its) :
    RkOk X s (.list xs) (.ref a) := by
  obtain ⟨as, bs, hr, hb, hk⟩ := h
  have r : Reads s.heap (.ref a) (.list xs) _ := .list ho hc hd hr
  have hna : a ∉ bs := not_mem_of_deeper r (by simp only [PyData.depth]; omega) hb
  refine ⟨_, a :: bs, r, ReadAtMost.cons r (by simp only [PyData.depth]; omega) hb, ?_⟩
  simp only [PyData.depth, PyData.shown]
  cases its with
  | nil =>
    cases hr
    simp only [PyData.shownAll, listText_nil]
    exact ReprK.listEmpty ho hc hd
  | cons x l => exact ReprK.list ho hc hd hna (by simpa using hk.length_eq) (fun i y e => hk.item i y (by simpa using e))
theorem rk_tuple {a : Addr} {xs : List PyData} {o : Obj} {its : List Value} {n : Nat} (ho : s.heap.get? a = some o) (hc : o.cls = .type "tuple") (hd : o.data = .seq its.toArray n) (h : RkAllOk X s xs its) :
    RkOk X s (.tuple xs) (.ref a) := by
  obtain ⟨as, bs, hr, hb, hk⟩ := h
  have r : Reads s.heap (.ref a) (.tuple xs) _ := .tuple ho hc hd hr
  have hna : a ∉ bs := not_mem_of_deeper r (by simp only [PyData.depth]; omega) hb
  refine ⟨_, a :: bs, r, ReadAtMost.cons r (by simp only [PyData.depth]; omega) hb, ?_⟩
  simp only [PyData.depth, PyData.shown]
  exact ReprK.tuple ho hc hd hna hk
theorem rk_nil {a : Addr} {o : Obj} {es : Array DictEntry} {n : Nat} (ho : s.heap.get? a = some o) (hc : o.cls = .type "dict") (hd : o.data = .dict es n) (he : es.toList = []) (hs : (a == sysModules) = false) :
    RkOk X s (.dict []) (.ref a) := by
  have r : Reads s.heap (.ref a) (.dict []) _ := .dict ho hc hd (by rw [he]; exact .nil) (by rw [he]; exact .nil)
  refine ⟨_, [a], r, ?_, ?_⟩
  · refine ReadAtMost.cons r (Nat.zero_le _) fun _ h => nomatch h
  · simp only [PyData.depth, PyData.shown, PyData.shownKv]
    exact ReprK.dict (as := []) ho hc hd hs (by simp) (by rw [he]; exact .nil)
mutual
theorem Rp.rk (I : Inv X pins σ H s) : ∀ (d : PyData) (v : V) (u : Value), Rp X.K H v d → RelV v u → dOk d = true → d.showable = true → d.shown.length ≤ sizeLine → RkOk X s d u
  | .none, _, _, h, r, _, _, _ => by
    cases h
    cases r
    exact ⟨_, [], .none, (fun _ h => nomatch h), by simp only [PyData.shown]; exact .of_is ReprIs.none _ _ _⟩
  | .bool b, _, _, h, r, _, _, _ => by
    cases h
    cases r
    exact ⟨_, [], .bool b, (fun _ h => nomatch h), by simp only [PyData.shown]; exact .of_is (ReprIs.bool b) _ _ _⟩
  | .int i, _, _, h, r, _, hs, _ => by
    cases h
    obtain ⟨t, rfl⟩ := r
    exact ⟨_, [], .int i t, (fun _ h => nomatch h), by simp only [PyData.shown]; exact .of_is (ReprIs.int t (by simpa [PyData.showable] using hs)) _ _ _⟩
  | .str x, _, _, h, r, _, _, hz => by
    cases h
    obtain ⟨t, rfl⟩ := r
    exact ⟨_, [], .str x t, (fun _ h => nomatch h), by simp only [PyData.shown]; exact .of_is (ReprIs.str x t (by simpa only [PyData.shown] using hz)) _ _ _⟩
  | .list ds, _, _, h, r, hd, hs, hz => by
    have hz' : (listText (PyData.shownAll ds)).length ≤ sizeLine := by simpa only [PyData.shown] using hz
    cases h with
    | lst h1 ha =>
      cases r
      obtain ⟨its, rv, ⟨o, n, ho, hc, _, hd'⟩, _⟩ := I.list (.inl (.inl h1))
      exact rk_list ho hc hd' (RpAll.rk I ds _ its ha rv (by simpa [dOk] using hd) (by simpa [PyData.showable] using hs) fun t ht => Nat.le_trans (listText_mem_le ht) hz')
  | .tuple ds, _, _, h, r, hd, hs, hz => by
    have hz' : (tupleText (PyData.shownAll ds)).length ≤ sizeLine := by simpa only [PyData.shown] using hz
    cases h with
    | tup h1 ha =>
      cases r
      obtain ⟨its, rv, ⟨o, ho, hc, n, hd'⟩, _⟩ := I.tuple h1
      exact rk_tuple ho hc hd' (RpAll.rk I ds _ its ha rv (by simpa [dOk] using hd) (by simpa [PyData.showable] using hs) fun t ht => Nat.le_trans (tupleText_mem_le ht) hz')
  | .dict [], _, _, h, r, _, _, _ => by
    cases h with
    | dct h1 hk =>
      cases r
      obtain ⟨_, hsys, vs, kv, o, es, ep, ho, ex, hd', _, el, _⟩ := dk_of I.hok h1
      cases hk
      cases kv
      exact rk_nil ho ex.1 hd' (pairs_nil el) hsys
  | .dict (_ :: _), _, _, _, _, hd, _, _ => by simp [dOk] at hd
theorem RpAll.rk (I : Inv X pins σ H s) : ∀ (ds : List PyData) (vs : List V) (us : List Value), RpAll X.K H vs ds → Vals vs us → dOkAll ds = true → PyData.showableAll ds = true → (∀ t ∈ PyData.shownAll ds, t.length ≤ sizeLine) → RkAllOk X s ds us
  | [], _, _, h, r, _, _, _ => by
    cases h
    cases r
    exact ⟨_, [], .nil, (fun _ h => nomatch h), by simp only [PyData.shownAll]; exact .nil⟩
  | d :: ds, _, _, h, r, hd, hs, hz => by
    cases h with
    | cons h1 h2 =>
      cases r with
      | cons r1 r2 =>
        have hs' : d.showable = true ∧ PyData.showableAll ds = true := by simpa [PyData.showableAll] using hs
        have hd' : dOk d = true ∧ dOkAll ds = true := by simpa [dOkAll] using hd
        obtain ⟨as, b1, q1, hb1, k1⟩ := Rp.rk I d _ _ h1 r1 hd'.1 hs'.1 (hz _ (by simp only [PyData.shownAll]; exact List.mem_cons_self ..))
        obtain ⟨cs, b2, q2, hb2, k2⟩ := RpAll.rk I ds _ _ h2 r2 hd'.2 hs'.2 (fun t ht => hz t (by simp only [PyData.shownAll]; exact List.mem_cons_of_mem _ ht))
        refine ⟨_, b1 ++ b2, .cons q1 q2, ?_, ?_⟩
        · simp only [PyData.depthAll]
          exact (hb1.mono (Nat.le_max_left _ _)).append (hb2.mono (Nat.le_max_right _ _))
        · simp only [PyData.depthAll, PyData.shownAll]
          exact .cons ((k1.more fun b hb => List.mem_append_left _ hb).level_le (Nat.le_max_left _ _)) (k2.more_le (fun b hb => List.mem_append_right _ hb) (Nat.le_max_right _ _))
end
end
theorem call_reprR {k : Nat} (room : Room k X.A) (hg : X.A.guards = some []) : CallR X (.builtin "repr") (rReprR X.K) := by
  intro pins s σ H vs us Q I r h
  obtain ⟨v, d, rfl, hd, ⟨c0, c1, c2, c3⟩, q⟩ := h
  obtain ⟨u, rfl, rv⟩ : ∃ u, us = [u] ∧ RelV v u := by
    obtain _ | ⟨r1, _ | _⟩ := r
    exact ⟨_, rfl, r1⟩
  have hu := room.units
  cases hd with
  | non =>
    cases rv
    exact PySem.P.repr_of_none ⟨.str _, H, I.tok _, ⟨_, rfl⟩, by simpa [PyData.shown] using q⟩
  | bl b =>
    cases rv
    exact PySem.P.repr_of_bool ⟨.str _, H, I.tok _, ⟨_, rfl⟩, by simpa [PyData.shown] using q⟩
  | int i =>
    obtain ⟨t, rfl⟩ := rv
    exact PySem.P.repr_of_int (by simpa [PyData.showable] using c1) ⟨.str _, H, I.tok _, ⟨_, rfl⟩, by simpa [PyData.shown] using q⟩
  | str x =>
    obtain ⟨t, rfl⟩ := rv
    exact PySem.P.repr_of_str ⟨.str _, H, I.tok _, ⟨_, rfl⟩, by simpa [PyData.shown] using q⟩ (by simpa [PyData.shown] using c3)
  | @lst a vs ds h1 ha =>
    cases rv
    have hz' : (listText (PyData.shownAll ds)).length ≤ sizeLine := by simpa only [PyData.shown] using c3
    obtain ⟨its, rv, ⟨o, n, ho, hc, _, hd'⟩, _⟩ := I.list (.inl (.inl h1))
    obtain ⟨as, bs, hr, hb, hk⟩ := RpAll.rk I ds _ its ha rv (by simpa [dOk] using c0) (by simpa [PyData.showable] using c1) fun t ht => Nat.le_trans (listText_mem_le ht) hz'
    have rr : Reads s.heap (.ref a) (.list ds) _ := .list ho hc hd' hr
    have hna : a ∉ bs := not_mem_of_deeper rr (by simp only [PyData.depth]; omega) hb
    simp only [PyData.depth] at c2
    have go : ∀ (A : Around) (E : Value → Shared → Prop) (s1 : Shared) (Q : Value → Shared → Prop), A.guards = some [] → A.units + (PyData.depthAll ds + 1) < cLine → (∀ b o, s.heap.get? b = some o → s1.heap.get? b = some o) →
        (∀ h' u tk, (∀ b o, s1.heap.get? b = some o → h'.get? b = some o) → Q (.str (PyData.list ds).shown u) { s1 with heap := h', toks := tk }) → wpAny (model X.prog X.w) A (call (.builtin "list.__repr__") [.ref a]) Q E s1 := fun A E s1 Q hg hu hk0 hQ => by
      simp only [PyData.shown] at hQ
      cases its with
      | nil =>
        cases hr
        simp only [PyData.shownAll, listText_nil] at hQ
        exact call_list_repr_empty ⟨o, hk0 _ _ ho, hc⟩ (hk0 _ _ ho) hd' (hQ s1.heap _ _ fun _ _ e => e)
      | cons x l => exact call_list_reprK ho hc hd' hna (by simpa using hk.length_eq) (fun i y e => hk.item i y (by simpa using e)) hg (fun b _ => Clear.nil b) hu hk0 hQ hz'
    exact call_repr_slot (by omega) ⟨o, ho, hc⟩ F.slot_list_repr.toG (go X.A.in1 X.xe s _ hg (by show X.A.units + 1 + (PyData.depthAll ds + 1) < cLine; omega) (fun _ _ e => e) fun h' u tk hk => ⟨_, _, rfl, ⟨.str _, H, I.kept hk, ⟨_, rfl⟩, q⟩⟩)
  | @tup a vs ds h1 ha =>
    cases rv
    have hz' : (tupleText (PyData.shownAll ds)).length ≤ sizeLine := by simpa only [PyData.shown] using c3
    obtain ⟨its, rv, ⟨o, ho, hc, n, hd'⟩, _⟩ := I.tuple h1
    obtain ⟨as, bs, hr, hb, hk⟩ := RpAll.rk I ds _ its ha rv (by simpa [dOk] using c0) (by simpa [PyData.showable] using c1) fun t ht => Nat.le_trans (tupleText_mem_le ht) hz'
    have rr : Reads s.heap (.ref a) (.tuple ds) _ := .tuple ho hc hd' hr
    have hna : a ∉ bs := not_mem_of_deeper rr (by simp only [PyData.depth]; omega) hb
    simp only [PyData.depth] at c2
    exact call_repr_slot (by omega) ⟨o, ho, hc⟩ F.slot_tuple_repr (call_tuple_reprK ho hc hd' hna hk hg (fun b _ => Clear.nil b) (by show X.A.units + 1 + (PyData.depthAll ds + 1) < cLine; omega) (fun _ _ e => e) (fun h' u tk hk => ⟨_, _, rfl, ⟨.str _, H, I.kept hk, ⟨_, rfl⟩, by simpa [PyData.shown] using q⟩⟩) hz')
  | @dct a kvs ps h1 hk =>
    cases rv
    have hps : ps = [] := by simpa [dOk] using c0
    subst hps
    obtain ⟨_, hsys, vs, kv, o, es, ep, ho, ex, hd', _, el, _⟩ := dk_of I.hok h1
    cases hk
    cases kv
    have he : es.toList = [] := pairs_nil el
    exact call_repr_slot (by omega) ⟨o, ho, ex.1⟩ F.slot_dict_repr (call_dict_reprK (as := []) (d := 0) (ps := []) ho ex.1 hd' hsys (by simp) (by rw [he]; exact .nil) hg (fun b _ => Clear.nil b) (by show X.A.units + 1 + (0 + 1) < cLine; omega) (fun _ _ e => e) (fun h' u tk hk => ⟨_, _, rfl, ⟨.str _, H, I.kept hk, ⟨_, rfl⟩, by simpa [PyData.shown, PyData.shownKv] using q⟩⟩) (by decide))
theorem xc_repr {k : Nat} (room : Room k X.A) (hg : X.A.guards = some []) : YCl X (.builtin "repr") rRp := by
  refine ⟨_, call_reprR room hg, fun cs M Qh h B as vs H Q S o q => ?_⟩
  unfold rRp at h
  split at h
  · rename_i c
    obtain _ | ⟨o1, _ | _⟩ := o
    split at h
    · rename_i d e
      exact ⟨_, d, rfl, deref_ok S o1 e, h.1, q _ M _ B as H h.2 S.gr S (.str _)⟩
    · cases h
  · cases h
end
end Kt

set_option Elab.async false
set_option linter.all false
set_option maxRecDepth 100000
set_option maxHeartbeats 2000000
namespace Kt
open PySem PySem.Spec PyProof.Rows L2

/-! ## isinstance of data and a built-in class -/
def tyD : PyData → String
  | .none => "NoneType"
  | .bool _ => "bool"
  | .int _ => "int"
  | .str _ => "str"
  | .list _ => "list"
  | .tuple _ => "tuple"
  | .dict _ => "dict"
def isInt : PyData → Bool
  | .int _ => true
  | .bool _ => true
  | _ => false
def isBool : PyData → Bool
  | .bool _ => true
  | _ => false
def isTup : PyData → Bool
  | .tuple _ => true
  | _ => false
def isListD : PyData → Bool
  | .list _ => true
  | _ => false
def isStr : PyData → Bool
  | .str _ => true
  | _ => false
def isiQ (f : PyData → Bool) (c : Cell) (M : Mem) (Q : Qx) : Prop := match deref c M with
  | some d => Q (.d (.bool (f d))) M
  | none => False
def pIsi (f : PyData → Bool) (p : Px) : Px := fun ρ M Q => p ρ M fun c M1 => isiQ f c M1 Q
def kitT (T : String) (f : PyData → Bool) : Prop := ∀ (K : PySem.W.Frag) (d : PyData), PySem.W.kitOne K (.type (tyD d)) (.type T) = some (f d)
section
variable {X : Cy} {e : Expr} {p : Px} {pos p0 p1 : Pos}
theorem rp_ty {K : PySem.W.Frag} {H : Hp} {v : V} {d : PyData} (r : Rp K H v d) : TyX K H v (.type (tyD d)) := by
  cases r with
  | non => exact .base .non
  | bl b => exact .base (.bl b)
  | int i => exact .base (.int i)
  | str x => exact .base (.str x)
  | lst h _ => exact .base (.lst h)
  | tup h _ =>
    rcases h with (h | ⟨o, h⟩) | h
    · exact .base (.tup h)
    · exact .fTuple h
    · obtain ⟨o, its, n, h1, h2, _⟩ := h
      exact .kTuple h1 h2
  | dct h _ => exact .base (.dK h)
theorem y_isi {T : String} {f : PyData → Bool} (hk : kitT T f) (hg : Gl X "isinstance") (hm : X.mg "isinstance" = none) (hgT : Gl X (Str.ofString T)) (hmT : X.mg (Str.ofString T) = none) (hT : bootBuiltins (Str.ofString T) = some (.type T)) (he : YE X e p)
    (hn : (Str.ofString T) ≠ "__name__" := by decide) (hdb : ((Str.ofString T) == ("__debug__" : Str)) = false := by decide)
    (hs : starEach (e :: [.Name (Str.ofString T) p1]) X.env = (false, eval e X.env) :: starEach [.Name (Str.ofString T) p1] X.env := by rfl) (hpl : (backTo pos (starEach [.Name (Str.ofString T) p1] X.env)).any (·.1) = false := by rfl)
    (hs2 : starEach ([.Name (Str.ofString T) p1]) X.env = (false, eval (.Name (Str.ofString T) p1) X.env) :: starEach [] X.env := by rfl) :
    YE X (.Call (.Name "isinstance" p0) [e, .Name (Str.ofString T) p1] [] pos) (pIsi f p) := by
  obtain ⟨t, h1, h2⟩ := he
  refine ⟨_, pe_callB call_isi hg hm (by decide +kernel) (pa_cons h1 (pa_cons (pe_bltn (v := .ty T) hgT hmT hT rfl hn hdb) pa_nil hs2) hs) (by decide) (by decide) hs hpl, fun ρ M Qh hp B as σ H Q S L W0 q => h2 ρ M _ hp B as σ H _ S L W0 fun c M1 v B1 as1 H1 hh g1 S1 o1 => ?_⟩
  unfold isiQ at hh
  split at hh
  · rename_i d ed
    have r := deref_ok S1 o1 ed
    exact ⟨v, .ty T, _, _, f d, rfl, .ty T, rp_ty r, hk _ d, q _ M1 _ B1 as1 H1 hh g1 S1 (.bl _)⟩
  · cases hh
end
theorem kit_int : kitT "int" isInt := fun K d => by cases d <;> exact kit_ty (by dsimp only [tyD, isInt]; decide +kernel)
theorem kit_bool : kitT "bool" isBool := fun K d => by cases d <;> exact kit_ty (by dsimp only [tyD, isBool]; decide +kernel)
theorem kit_tuple : kitT "tuple" isTup := fun K d => by cases d <;> exact kit_ty (by dsimp only [tyD, isTup]; decide +kernel)
theorem kit_list : kitT "list" isListD := fun K d => by cases d <;> exact kit_ty (by dsimp only [tyD, isListD]; decide +kernel)
theorem kit_str : kitT "str" isStr := fun K d => by cases d <;> exact kit_ty (by dsimp only [tyD, isStr]; decide +kernel)
/-! ## a def that stands in the text and keeps its promise -/
structure DefOk (P : Program) (w : World) (K : PySem.W.Frag) (mg : Str → Option Value) (base : Heap) (x : Str) (st : Stmt) (ps : List Str) (k : Nat) (g : Gs) : Prop where
  ex : ∃ f fd, Fun K x x st f fd ∧ FnG P w K mg base (L2.CX P w) k f fd ps (spD K ps.length g) ∧ mg x = some (.ref f)
/-- how its arguments bind -/
def bindsAll (x : Str) (st : Stmt) (ps : List Str) : Prop := ∀ (kV doc pm : Value) (an : Option Addr) (cdv ct : Value) (us : List Value), us.length = ps.length → bindArgs (PySem.W.fnOf x x (defArgs st) (defBody st) (defScope st) .none kV doc pm an cdv ct) ⟨us, []⟩ = pure (ps.zip us)
def bindsK (x : Str) (st : Stmt) (ps ks : List Str) (ix : List Nat) : Prop := ∀ (kV doc pm : Value) (an : Option Addr) (cdv ct : Value) (ws : List Value), ws.length = ix.length →
  bindArgs (PySem.W.fnOf x x (defArgs st) (defBody st) (defScope st) .none kV doc pm an cdv ct) ⟨[], ks.zip ws⟩ = pure (ps.zip (ix.map fun i => ws.getD i .none))
theorem DefOk.up {P : Program} {w : World} {K : PySem.W.Frag} {mg : Str → Option Value} {base : Heap} {x : Str} {st : Stmt} {ps : List Str} {j k : Nat} {g : Gs} (d : DefOk P w K mg base x st ps j g) (h : j ≤ k) : DefOk P w K mg base x st ps k g :=
  let ⟨f, fd, h1, h2, h3⟩ := d; ⟨f, fd, h1, h2.up h, h3⟩
section
variable {X : Cy} {k : Nat} {g : Gs} {ps ks : List Str} {x : Str} {st : Stmt} {p pos : Pos} {e : Expr} {es : List Expr} {kws : List Keyword} {pa : Pa} {ix : List Nat}
theorem y_cd (d : DefOk X.prog X.w X.K X.mg X.base x st ps k g) (b : bindsAll x st ps) (hgu : X.A.guards = some []) (hr : Room k X.A) (gl : Gl X x) (tk : Takes X X.W)
    (ha : YA X (e :: es) pa) (hdb : (x == ("__debug__" : Str)) = false := by decide) (he : starEach (e :: es) X.env = (false, eval e X.env) :: starEach es X.env := by rfl) (hpl : (backTo pos (starEach es X.env)).any (·.1) = false := by rfl) :
    YE X (.Call (.Name x p) (e :: es) [] pos) (pCall ps.length g X.Wh pa) := let ⟨_, _, h1, h2, h3⟩ := d; y_call h2 hgu hr gl h3 h1.kp (h1.binds b) tk ha hdb he hpl
theorem y_cdR (d : DefOk X.prog X.w X.K X.mg X.base x st ps k g) (b : bindsAll x st ps) (hgu : X.A.guards = some []) (hr : Room k X.A) (gl : Gl X x) (tk : Takes X X.W)
    (ha : YA X (e :: es) pa) (hdb : (x == ("__debug__" : Str)) = false := by decide) (he : starEach (e :: es) X.env = (false, eval e X.env) :: starEach es X.env := by rfl) (hpl : (backTo pos (starEach es X.env)).any (·.1) = false := by rfl) :
    YE X (.Call (.Name x p) (e :: es) [] pos) (pCallR ps.length g X.Wh pa) := let ⟨_, _, h1, h2, h3⟩ := d; y_callR h2 hgu hr gl h3 h1.kp (h1.binds b) tk ha hdb he hpl
theorem y_cd0 (d : DefOk X.prog X.w X.K X.mg X.base x st ps k g) (b : bindsAll x st ps) (hgu : X.A.guards = some []) (hr : Room k X.A) (gl : Gl X x) (tk : Takes X X.W) (hdb : (x == ("__debug__" : Str)) = false := by decide) :
    YE X (.Call (.Name x p) [] [] pos) (pCall ps.length g X.Wh pNil) := let ⟨_, _, h1, h2, h3⟩ := d; y_call0 h2 hgu hr gl h3 h1.kp (h1.binds b) tk hdb
theorem y_cdK (d : DefOk X.prog X.w X.K X.mg X.base x st ps k g) (hp : ps ≠ []) (b : bindsK x st ps ks ix) (hgu : X.A.guards = some []) (hr : Room k X.A) (gl : Gl X x) (tk : Takes X X.W)
    (hkw : YK X kws pa) (hall : (backToKw pos (keywordEach kws X.env)).all (·.1.isSome) = true := by rfl) (hks : (backToKw pos (keywordEach kws X.env)).filterMap (·.1) = ks := by rfl)
    (hdb : (x == ("__debug__" : Str)) = false := by decide) (hpl : ((backTo pos (starEach [] X.env)).any (·.1) || (backToKw pos (keywordEach kws X.env)).any (·.1.isNone)) = false := by rfl) :
    YE X (.Call (.Name x p) [] kws pos) (pCallK ps.length ix g X.Wh pa) := by
  obtain ⟨f, fd, h1, h2, h3⟩ := d
  refine y_callK h2 hgu hr gl h3 h1.kp (kbinds hp fun s ws hl => ?_) tk hkw hall hks hdb hpl
  obtain ⟨oc, od, kV, doc, pm, an, cdv, ct, osl, rfl, lk, hcd⟩ := h1.ex
  exact .of_eq (b kV doc pm an cdv ct ws hl)
theorem y_cdb (hW : X.Wh = fun _ _ _ => False) (d : DefOk X.prog X.w X.K X.mg X.base x st ps k g) (b : bindsAll x st ps) (hgu : X.A.guards = some []) (hr : Room k X.A) (gl : Gl X x) (tk : Takes X X.W)
    (ha : YA X (e :: es) pa) (hdb : (x == ("__debug__" : Str)) = false := by decide) (he : starEach (e :: es) X.env = (false, eval e X.env) :: starEach es X.env := by rfl) (hpl : (backTo pos (starEach es X.env)).any (·.1) = false := by rfl) :
    YE X (.Call (.Name x p) (e :: es) [] pos) (pCall ps.length g (fun _ _ _ => False) pa) := by
  rw [← hW]
  exact y_cd d b hgu hr gl tk ha hdb he hpl
theorem y_cdRb (hW : X.Wh = fun _ _ _ => False) (d : DefOk X.prog X.w X.K X.mg X.base x st ps k g) (b : bindsAll x st ps) (hgu : X.A.guards = some []) (hr : Room k X.A) (gl : Gl X x) (tk : Takes X X.W)
    (ha : YA X (e :: es) pa) (hdb : (x == ("__debug__" : Str)) = false := by decide) (he : starEach (e :: es) X.env = (false, eval e X.env) :: starEach es X.env := by rfl) (hpl : (backTo pos (starEach es X.env)).any (·.1) = false := by rfl) :
    YE X (.Call (.Name x p) (e :: es) [] pos) (pCallR ps.length g (fun _ _ _ => False) pa) := by
  rw [← hW]
  exact y_cdR d b hgu hr gl tk ha hdb he hpl
theorem y_cd0b (hW : X.Wh = fun _ _ _ => False) (d : DefOk X.prog X.w X.K X.mg X.base x st ps k g) (b : bindsAll x st ps) (hgu : X.A.guards = some []) (hr : Room k X.A) (gl : Gl X x) (tk : Takes X X.W) (hdb : (x == ("__debug__" : Str)) = false := by decide) :
    YE X (.Call (.Name x p) [] [] pos) (pCall ps.length g (fun _ _ _ => False) pNil) := by
  rw [← hW]
  exact y_cd0 d b hgu hr gl tk hdb
theorem y_cdKb (hW : X.Wh = fun _ _ _ => False) (d : DefOk X.prog X.w X.K X.mg X.base x st ps k g) (hp : ps ≠ []) (b : bindsK x st ps ks ix) (hgu : X.A.guards = some []) (hr : Room k X.A) (gl : Gl X x) (tk : Takes X X.W)
    (hkw : YK X kws pa) (hall : (backToKw pos (keywordEach kws X.env)).all (·.1.isSome) = true := by rfl) (hks : (backToKw pos (keywordEach kws X.env)).filterMap (·.1) = ks := by rfl)
    (hdb : (x == ("__debug__" : Str)) = false := by decide) (hpl : ((backTo pos (starEach [] X.env)).any (·.1) || (backToKw pos (keywordEach kws X.env)).any (·.1.isNone)) = false := by rfl) :
    YE X (.Call (.Name x p) [] kws pos) (pCallK ps.length ix g (fun _ _ _ => False) pa) := by
  rw [← hW]
  exact y_cdK d hp b hgu hr gl tk hkw hall hks hdb hpl
end
theorem def_mk {P : Program} {w : World} {K : PySem.W.Frag} {mg : Str → Option Value} {base : Heap} {x : Str} {st : Stmt} {f : Addr} {fd : FuncData} {N ps : List Str} {k : Nat} {g : Gs} (F : Fun K x x st f fd) (m : mg x = some (.ref f)) (S : FnScope N ps (defScope st))
    (body : ∀ (cdv : Value) (A : Around) (out : List Env) (s : Shared) (H : Hp) (E : XK) (Eh : Xc → Mem → Prop), A.guards = some [] → Room k (A.deeper (envOfC x (defScope st) s.heap.objs.size f cdv)) →
      ∃ p, YSs (cyOf P w K mg base N x st f cdv A out s H E Eh) (defBody st) p ∧ ∀ cs M Qh, cs.length = ps.length → g cs M Qh Eh → p { nx := fun _ M => Qh (.d .none) M, rt := Qh } (stR N.length cs) M) :
    DefOk P w K mg base x st ps (k + 1) g := ⟨f, fd, F, def_ok F S body, m⟩
end Kt

set_option Elab.async false
set_option linter.all false
set_option maxRecDepth 100000
set_option maxHeartbeats 2000000
namespace Kt
open PySem PySem.Spec PyProof.Rows L2
section
variable {X : Cy}
theorem y_const {x : Str} {i : Int} {t : Tok} {pos : Pos} (hg : Gl X x) (hm : X.mg x = some (.int i t)) (hd : (x == ("__debug__" : Str)) = false := by decide) : YE X (.Name x pos) (pC (.int i)) := ⟨_, pe_glob (v := .int i) hg hm ⟨t, rfl⟩ hd, sim_c fun _ => .int i⟩
theorem y_setLc {i : Nat} {y : Str} {py : Pos} {elt tg iter : Expr} {ifs : List Expr} {scope : Scope} {own : List (Str × Nat)} {pos spos : Pos} {pi : Pi} {tgt : TG} {g : Pg} {pt : Pt} {pe : Px} (hc : X.calm = true) (hN : X.N.Nodup) (hy : X.N[i]? = some y) (hyl : X.env.scope.names.lookup y = some .local)
    (hsw : swapsWith (.ListComp elt [⟨tg, iter, ifs, 0⟩] scope pos) (some (.Name y py)) spos.line X.env = pure true) (hi : YI X tg iter pi) (ok : BlkOk X.N X.env.scope scope own)
    (hg : ∀ s H C cl fp, YGw (own.map (·.2)) (blkY X s H scope (compEnvC scope cl C X.env) fp) tg tgt g) (ht : ∀ s H C cl fp, YTs (blkY X s H scope (compEnvC scope cl C X.env) fp) ifs pt)
    (he : ∀ s H C cl fp, YE (blkY X s H scope (compEnvC scope cl C X.env) fp) elt pe) (hs : ∀ x, foldedSetIterable iter X.env x = pure x := by intro _; rfl) :
    YS X (.Assign [.Name y py] (.ListComp elt [⟨tg, iter, ifs, 0⟩] scope pos) spos) (pAsg (pLc pi g pt pe (own.map (·.2))) (gNm i)) := by
  obtain ⟨ti, i1, i2⟩ := hi
  refine ⟨_, ps_setLc (te := canE ⟨X.K, fun _ _ _ _ => False, fun _ _ _ => False⟩ pe) (tt := canT ⟨X.K, fun _ _ _ _ => False, fun _ _ _ => False⟩ pt) hc hN hy hyl hsw i1 ok (fun s H C cl fp => (hg s H C cl fp).pg) (fun s H C cl fp => can_t (ht s H C cl fp)) (fun s H C cl fp => can_e (he s H C cl fp)) hs, simS_asg ?_ simG_name⟩
  refine sim_lc (Zi := ⟨X.K, fun _ _ _ _ => False, fun _ _ _ => False⟩) rfl (fun _ _ _ h => h) i2 ?_ ?_ ?_
  · exact (hg X.s_0 X.H_0 X.env.locals [] []).sim
  · exact fun ρ M Qh h B as σ H Q S L W0 q => ⟨ρ, M, Qh, B, as, h, S, L, W0, q⟩
  · exact fun ρ M Qh h B as σ H Q S L W0 q => ⟨ρ, M, Qh, B, as, h, S, L, W0, q⟩
def pPar3 (i j l : Nat) (pa : Pa) : Ps := fun D ρ M => pa ρ M fun cs M1 => match cs with
  | [c, d, e] => D.nx (((ρ.set i (some c)).set j (some d)).set l (some e)) M1
  | _ => False
theorem y_par3 {i j l : Nat} {x y z : Str} {a b c : Expr} {pa : Pa} {px py pz pt pos : Pos} {kt k2 pt2} (hc : X.calm = true) (hN : X.N.Nodup) (hi : X.N[i]? = some x) (hj : X.N[j]? = some y) (hl : X.N[l]? = some z) (hij : i ≠ j) (hil : i ≠ l) (hjl : j ≠ l)
    (hx : X.env.scope.names.lookup x = some .local) (hy : X.env.scope.names.lookup y = some .local) (hz : X.env.scope.names.lookup z = some .local) (ha : YA X [a, b, c] pa)
    (hw : swappedStores [.Tuple [.Name x px, .Name y py, .Name z pz] kt pt] (.Tuple [a, b, c] k2 pt2) X.env = pure (some [x, y, z]) := by rfl)
    (hs : swapsWithSole [.Tuple [.Name x px, .Name y py, .Name z pz] kt pt] (.Tuple [a, b, c] k2 pt2) pos.line X.env = pure false := by rfl) :
    YS X (.Assign [.Tuple [.Name x px, .Name y py, .Name z pz] kt pt] (.Tuple [a, b, c] k2 pt2) pos) (pPar3 i j l pa) := by
  obtain ⟨ta, a1, a2⟩ := ha
  refine ⟨_, ps_par3 hc hN hi hj hl hij hil hjl hx hy hz a1 hw hs, fun D ρ M h B as σ H D' S L W0 e => a2 ρ M _ h B as σ H _ S L W0 fun cs M1 vs B1 as1 H1 hh g1 S1 o1 => ?_⟩
  split at hh
  · rename_i c d f
    obtain _ | ⟨q1, _ | ⟨q2, _ | ⟨q3, _ | _⟩⟩⟩ := o1
    exact ⟨_, _, _, rfl, e.nx _ M1 B1 as1 _ H1 hh g1 S1 ((((L.mono g1).set q1).set q2).set q3)⟩
  · cases hh
theorem takesY {P : Program} {w : World} {K : PySem.W.Frag} {mg : Str → Option Value} {base : Heap} {N : List Str} {qual : Str} {st : Stmt} {f : Addr} {cdv : Value} {A : Around} {out : List Env} {s : Shared} {H : Hp} {E : XK} {Eh : Xc → Mem → Prop} :
    Takes (cyOf P w K mg base N qual st f cdv A out s H E Eh).toCx (cyOf P w K mg base N qual st f cdv A out s H E Eh).W := takes_of rfl rfl rfl rfl
theorem passesY {P : Program} {w : World} {K : PySem.W.Frag} {mg : Str → Option Value} {base : Heap} {N : List Str} {qual : Str} {st : Stmt} {f : Addr} {cdv : Value} {A : Around} {out : List Env} {s : Shared} {H : Hp} {E : XK} {Eh : Xc → Mem → Prop} :
    PassesOwn (model (cyOf P w K mg base N qual st f cdv A out s H E Eh).prog (cyOf P w K mg base N qual st f cdv A out s H E Eh).w) (cyOf P w K mg base N qual st f cdv A out s H E Eh).A (cyOf P w K mg base N qual st f cdv A out s H E Eh).env (cyOf P w K mg base N qual st f cdv A out s H E Eh).xe := PassesOwn.leaving
theorem takesB {X : Cy} {s : Shared} {H : Hp} {scope : Scope} {cenv : Env} {fp : List Addr} : Takes (blkY X s H scope cenv fp).toCx (blkY X s H scope cenv fp).W := L2.takes0
end
end Kt

set_option Elab.async false
set_option linter.all false
set_option maxRecDepth 100000
set_option maxHeartbeats 2000000
namespace Kt
open PySem PySem.Spec PyProof.Rows L2

/-! ## one step of a wish -/
section
variable {ρ : Rho} {M : Mem} {Q : Qx} {D : En} {pa pb pc pe : Px} {p q : Ps} {t u : Pt} {r r' : Pr2} {g : Pg} {gs : Pgs} {pas : Pa}
theorem w_seq (h : p { D with nx := q D } ρ M) : pSeq p q D ρ M := h
theorem w_next (h : D.nx ρ M) : pNext D ρ M := h
theorem w_ret (h : pe ρ M D.rt) : pRet pe D ρ M := h
theorem w_drop (h : pe ρ M fun _ M1 => D.nx ρ M1) : pDrop pe D ρ M := h
theorem w_asg (h : pe ρ M fun c M1 => g c ρ M1 D.nx) : pAsg pe g D ρ M := h
theorem w_nm {i : Nat} {c : Cell} {R : Rho → Mem → Prop} (h : R (ρ.set i (some c)) M) : gNm i c ρ M R := h
theorem w_tp {n : Nat} {xs : List PyData} {R : Rho → Mem → Prop} (hn : xs.length = n) (h : gs xs ρ M R) : gTp n gs (.d (.tuple xs)) ρ M R := ⟨hn, h⟩
theorem w_gnil {R : Rho → Mem → Prop} (h : R ρ M) : gsNil [] ρ M R := h
theorem w_gcons {x : PyData} {xs : List PyData} {R : Rho → Mem → Prop} (h : g (.d x) ρ M fun ρ' M' => gs xs ρ' M' R) : gsCons g gs (x :: xs) ρ M R := h
theorem w_if (h : t ρ M fun b M1 => (b = true → p D ρ M1) ∧ (b = false → q D ρ M1)) : pIf t p q D ρ M := h
theorem w_par {i j : Nat} (h : pas ρ M fun cs M1 => match cs with
  | [c, d] => D.nx ((ρ.set i (some c)).set j (some d)) M1
  | _ => False) : pPar i j pas D ρ M := h
theorem w_par3 {i j l : Nat} (h : pas ρ M fun cs M1 => match cs with
  | [c, d, e] => D.nx (((ρ.set i (some c)).set j (some d)).set l (some e)) M1
  | _ => False) : pPar3 i j l pas D ρ M := h
theorem w_var {i : Nat} {c : Cell} (e : ρ[i]? = some (some c)) (h : Q c M) : pVar i ρ M Q := by
  unfold pVar
  rw [e]
  exact h
theorem w_c {x : PyData} (h : Q (.d x) M) : pC x ρ M Q := h
theorem w_bin (h : pa ρ M fun x M1 => pb ρ M1 fun y M2 => r x y M2 Q) : pBin r pa pb ρ M Q := h
theorem w_un {r : Pr1} (h : pa ρ M fun x M1 => r x M1 Q) : pUn r pa ρ M Q := h
theorem w_II {C : Int → Int → Prop} {f : Int → Int → PyData} {i j : Int} (c : C i j) (h : Q (.d (f i j)) M) : pII C f (.d (.int i)) (.d (.int j)) M Q := ⟨c, h⟩
theorem w_II0 {f : Int → Int → PyData} {i j : Int} (h : Q (.d (f i j)) M) : pII0 f (.d (.int i)) (.d (.int j)) M Q := h
theorem w_I1 {f : Int → PyData} {i : Int} (h : Q (.d (f i)) M) : pI1 f (.d (.int i)) M Q := h
theorem w_add {i j : Int} (h : Q (.d (.int (i + j))) M) : pAdd (.d (.int i)) (.d (.int j)) M Q := h
theorem w_mul {i j : Int} (c : CMulW i j) (h : Q (.d (.int (i * j))) M) : pMul (.d (.int i)) (.d (.int j)) M Q := ⟨c, h⟩
theorem w_tst (h : pe ρ M fun c M1 => match c with
  | .d (.bool b) => Q' b M1
  | _ => False) : pTst pe ρ M Q' := h
theorem w_and (h : t ρ M fun b M1 => (b = true → u ρ M1 Q') ∧ (b = false → Q' false M1)) : pAnd t u ρ M Q' := h
theorem w_or (h : t ρ M fun b M1 => (b = true → Q' true M1) ∧ (b = false → u ρ M1 Q')) : pOr t u ρ M Q' := h
theorem w_not (h : t ρ M fun b M1 => Q' (!b) M1) : pNot t ρ M Q' := h
theorem w_ifE (h : t ρ M fun b M1 => (b = true → pa ρ M1 Q) ∧ (b = false → pb ρ M1 Q)) : pIfE t pa pb ρ M Q := h
theorem w_pnil {R : Qa} (h : R [] M) : pNil ρ M R := h
theorem w_pcons {R : Qa} (h : pe ρ M fun c M1 => pas ρ M1 fun cs M2 => R (c :: cs) M2) : pCons pe pas ρ M R := h
theorem w_call {n : Nat} {k : Gs} {Wh : Xc → Rho → Mem → Prop} (h : pas ρ M (gCall n k Wh ρ Q)) : pCall n k Wh pas ρ M Q := h
theorem w_callR {n : Nat} {k : Gs} {Wh : Xc → Rho → Mem → Prop} (h : pas ρ M (gCallR n k Wh ρ Q)) : pCallR n k Wh pas ρ M Q := h
theorem w_callK {n : Nat} {ix : List Nat} {k : Gs} {Wh : Xc → Rho → Mem → Prop} (h : pas ρ M fun cs M1 => gCall n k Wh ρ Q (permV (.d .none) ix.length ix cs) M1) : pCallK n ix k Wh pas ρ M Q := h
theorem w_cb {k : Pr} (h : pas ρ M fun cs M1 => k cs M1 Q) : pCB k pas ρ M Q := h
theorem w_i1 {f : Int → PyData} {i : Int} (h : Q (.d (f i)) M) : rI1 f [.d (.int i)] M Q := h
theorem w_i2 {f : Int → Int → PyData} {i j : Int} (h : Q (.d (f i j)) M) : rI2 f [.d (.int i), .d (.int j)] M Q := h
theorem w_int {i : Int} (h : Q (.d (.int i)) M) : rInt [.d (.int i)] M Q := h
theorem w_ixt {xs : List PyData} {i : Int} {z : PyData} (e : atI xs i = some z) (h : Q (.d z) M) : pIx (.d (.tuple xs)) (.d (.int i)) M Q := by
  show (match atI xs i with
    | some z => Q (.d z) M
    | none => False)
  rw [e]
  exact h
theorem w_ixl {xs : List PyData} {i : Int} {z : PyData} (e : atI xs i = some z) (h : Q (.d z) M) : pIx (.d (.list xs)) (.d (.int i)) M Q := by
  show (match atI xs i with
    | some z => Q (.d z) M
    | none => False)
  rw [e]
  exact h
theorem w_ixr {n : Nat} {xs : List PyData} {i : Int} {z : PyData} (m : deref (.r n) M = some (.list xs)) (e : atI xs i = some z) (h : Q (.d z) M) : pIx (.r n) (.d (.int i)) M Q := by
  unfold pIx
  dsimp only
  rw [m]
  dsimp only
  rw [e]
  exact h
theorem w_chn (h : pa ρ M fun x M1 => pb ρ M1 fun y M2 => r x y M2 fun z M3 => match z with
  | .d (.bool k) => (k = true → pc ρ M3 fun w M4 => r' y w M4 Q) ∧ (k = false → Q (.d (.bool false)) M3)
  | _ => False) : pChn r r' pa pb pc ρ M Q := h
theorem w_tup {R : Qx} (h : pas ρ M fun cs M1 => match asDs cs M1 with
  | some (xs, M2) => xs.length ≤ sizeLine ∧ R (.d (.tuple xs)) M2
  | none => False) : pTup pas ρ M R := h
theorem w_lst {R : Qx} (h : pas ρ M fun cs M1 => match asDs cs M1 with
  | some (xs, M2) => xs.length ≤ sizeLine ∧ R (.r M2.length) (M2 ++ [.live xs])
  | none => False) : pLst pas ρ M R := h
theorem w_bt {A B : Prop} (h : A) : (true = true → A) ∧ (true = false → B) := ⟨fun _ => h, nofun⟩
theorem w_bf {A B : Prop} (h : B) : (false = true → A) ∧ (false = false → B) := ⟨nofun, fun _ => h⟩
theorem w_nbt {A B : Prop} (h : B) : ((!true) = true → A) ∧ ((!true) = false → B) := ⟨nofun, fun _ => h⟩
theorem w_nbf {A B : Prop} (h : A) : ((!false) = true → A) ∧ ((!false) = false → B) := ⟨fun _ => h, nofun⟩
theorem w_dec {a : Prop} [Decidable a] {A B : Prop} (h1 : a → A) (h2 : ¬ a → B) : (decide a = true → A) ∧ (decide a = false → B) := ⟨fun e => h1 (of_decide_eq_true e), fun e => h2 (of_decide_eq_false e)⟩
theorem w_ndec {a : Prop} [Decidable a] {A B : Prop} (h1 : ¬ a → A) (h2 : a → B) : ((!decide a) = true → A) ∧ ((!decide a) = false → B) := ⟨fun e => h1 (by simpa using e), fun e => h2 (by simpa using e)⟩
theorem w_gcall {n : Nat} {g : Gs} {Wh : Xc → Rho → Mem → Prop} {cs cs' : List Cell} {M2 : Mem} (hn : cs.length = n) (hc : cellsC cs M = some (cs', M2)) (h : g cs' [] (back Q M2) fun x _ => Wh x ρ M2) : gCall n g Wh ρ Q cs M := by
  refine ⟨hn, ?_⟩
  rw [hc]
  exact h
theorem w_gcallR {k n : Nat} {g : Gs} {Wh : Xc → Rho → Mem → Prop} {rest cs' : List Cell} {M2 : Mem} {xs : List PyData} (hn : rest.length + 1 = k) (hc : cellsC rest M = some (cs', M2)) (hm : M2[n]? = some (.live xs))
    (h : g (.r 0 :: cs') [.live xs] (backR Q n M2) fun x Ml => match Ml with
      | .live ys :: _ => Wh x ρ (M2.set n (.live ys))
      | _ => False) : gCallR k g Wh ρ Q (.r n :: rest) M := by
  refine ⟨hn, ?_⟩
  dsimp only
  rw [hc]
  dsimp only
  rw [hm]
  exact h
/-- what a def hands back: data; a list of its own -/
def retD (Q : Qx) (y : PyData) : Prop := ∀ M, Q (.d y) M
def retL (Q : Qx) (ys : List PyData) : Prop := ∀ (k : Nat) M, M[k]? = some (.live ys) → Q (.r k) M
theorem w_retD {y : PyData} (h : Q (.d y) M) : retD (back Q M) y := fun _ => h
theorem w_retL {ys : List PyData} (h : Q (.r M.length) (M ++ [.live ys])) : retL (back Q M) ys := fun k M' e => by
  unfold back
  dsimp only
  rw [e]
  exact h
/-- the same of a def that changes the list src: src' is the list behind it -/
def retDR (Q : Qx) (src' : List PyData) (y : PyData) : Prop := ∀ Mr, Q (.d y) (.live src' :: Mr)
def retLR (Q : Qx) (src' : List PyData) (ys : List PyData) : Prop := ∀ (k : Nat) Mr, Mr[k]? = some (.live ys) → Q (.r (k + 1)) (.live src' :: Mr)
theorem w_retDR {n : Nat} {src' : List PyData} {y : PyData} (h : Q (.d y) (M.set n (.live src'))) : retDR (backR Q n M) src' y := fun _ => h
theorem w_retLR {n : Nat} {src' : List PyData} {ys : List PyData} (h : Q (.r M.length) (M.set n (.live src') ++ [.live ys])) : retLR (backR Q n M) src' ys := fun k Mr e => by
  unfold backR
  dsimp only
  rw [e]
  exact h
theorem w_isi {f : PyData → Bool} (h : pe ρ M fun c M1 => isiQ f c M1 Q) : pIsi f pe ρ M Q := h
theorem w_isiD {f : PyData → Bool} {x : PyData} (h : Q (.d (.bool (f x))) M) : isiQ f (.d x) M Q := h
theorem w_isiR {f : PyData → Bool} {n : Nat} {x : PyData} (m : deref (.r n) M = some x) (h : Q (.d (.bool (f x))) M) : isiQ f (.r n) M Q := by
  unfold isiQ
  rw [m]
  exact h
theorem w_andV (h : pa ρ M fun c M1 => match c with
  | .d (.bool b) => (b = true → pb ρ M1 Q) ∧ (b = false → Q (.d (.bool false)) M1)
  | _ => False) : pAndV pa pb ρ M Q := h
theorem w_orV (h : pa ρ M fun c M1 => match c with
  | .d (.bool b) => (b = true → Q (.d (.bool true)) M1) ∧ (b = false → pb ρ M1 Q)
  | _ => False) : pOrV pa pb ρ M Q := h
theorem w_notV (h : pa ρ M fun c M1 => match c with
  | .d (.bool b) => Q (.d (.bool (!b))) M1
  | _ => False) : pNotV pa ρ M Q := h
theorem w_lnD {xs : List PyData} (h : Q (.d (.int xs.length)) M) : rLn [.d (.list xs)] M Q := h
theorem w_lnT {xs : List PyData} (h : Q (.d (.int xs.length)) M) : rLn [.d (.tuple xs)] M Q := h
theorem w_lnS {ns : List Int} (h : Q (.d (.int ns.length)) M) : rLn [.s ns] M Q := h
theorem w_lnR {n : Nat} {xs : List PyData} (m : deref (.r n) M = some (.list xs)) (h : Q (.d (.int xs.length)) M) : rLn [.r n] M Q := by
  unfold rLn
  dsimp only
  rw [m]
  exact h
theorem w_eqII {i j : Int} (h : Q (.d (.bool (decide (i = j)))) M) : pEq (.d (.int i)) (.d (.int j)) M Q := h
theorem w_neII {i j : Int} (h : Q (.d (.bool (!decide (i = j)))) M) : pNe (.d (.int i)) (.d (.int j)) M Q := h
theorem w_eqSS {i j : Str} (h : Q (.d (.bool (decide (i = j)))) M) : pEq (.d (.str i)) (.d (.str j)) M Q := h
theorem w_neSS {i j : Str} (h : Q (.d (.bool (!decide (i = j)))) M) : pNe (.d (.str i)) (.d (.str j)) M Q := h
theorem w_fin {y z : PyData} (q : retD Q y) (e : z = y) : Q (.d z) M := e ▸ q M
theorem w_finI {y z : Int} (q : retD Q (.int y)) (e : z = y) : Q (.d (.int z)) M := e ▸ q M
theorem w_finB {y z : Bool} (q : retD Q (.bool y)) (e : z = y) : Q (.d (.bool z)) M := e ▸ q M
end
end Kt


set_option Elab.async false
set_option linter.all false
set_option maxRecDepth 100000
set_option maxHeartbeats 2000000
namespace Kt
open PySem PySem.Spec PyProof.Rows L2

/-! ## loops and comprehensions, by what holds between two turns -/
section
variable {ρ : Rho} {M : Mem} {Q : Qx} {D : En} {g : Pg} {pb : Ps} {pt : Pt} {pe : Px} {pi : Pi} {pas : Pa} {xs : List PyData} {vs : List Nat}
theorem w_for (h : pi ρ M fun xs M1 => runL g pb D xs ρ M1) : pFor pi g pb D ρ M := h
theorem w_lc (h : pi ρ M fun xs M1 => runC g pt pe (wipeR ρ vs) Q xs [] M1) : pLc pi g pt pe vs ρ M Q := h
def iQL (Q : List PyData → Mem → Prop) (c : Cell) (M : Mem) : Prop := match asL c M with
  | some (xs, M2) => Q xs M2
  | none => False
theorem w_iLst {R : List PyData → Mem → Prop} (h : pe ρ M fun c M1 => iQL R c M1) : iLst pe ρ M R := h
theorem w_iQLd {R : List PyData → Mem → Prop} (h : R xs M) : iQL R (.d (.list xs)) M := h
theorem w_iQLr {R : List PyData → Mem → Prop} {n : Nat} {M2 : Mem} (e : asL (.r n) M = some (xs, M2)) (h : R xs M2) : iQL R (.r n) M := by
  unfold iQL
  rw [e]
  exact h
def iQT (Q : List PyData → Mem → Prop) (c : Cell) (M : Mem) : Prop := match c with
  | .d (.tuple xs) => Q xs M
  | _ => False
theorem w_iTpl {R : List PyData → Mem → Prop} (h : pe ρ M fun c M1 => iQT R c M1) : iTpl pe ρ M R := h
theorem w_iQT {R : List PyData → Mem → Prop} (h : R xs M) : iQT R (.d (.tuple xs)) M := h
def iQ1 (Q : List PyData → Mem → Prop) (cs : List Cell) (M : Mem) : Prop := match cs with
  | [.d (.int j)] => (-(2 ^ 62) ≤ j ∧ j < 2 ^ 62) ∧ Q (intsFrom 0 j.toNat) M
  | _ => False
theorem w_iRg1 {R : List PyData → Mem → Prop} (h : pas ρ M fun cs M1 => iQ1 R cs M1) : iRg1 pas ρ M R := h
theorem w_iQ1 {R : List PyData → Mem → Prop} {j : Int} (h1 : -(2 ^ 62) ≤ j) (h2 : j < 2 ^ 62) (h : R (intsFrom 0 j.toNat) M) : iQ1 R [.d (.int j)] M := ⟨⟨h1, h2⟩, h⟩
def iQ2 (Q : List PyData → Mem → Prop) (cs : List Cell) (M : Mem) : Prop := match cs with
  | [.d (.int i), .d (.int j)] => (-(2 ^ 62) ≤ i ∧ i < 2 ^ 62 ∧ -(2 ^ 62) ≤ j ∧ j < 2 ^ 62) ∧ Q (intsFrom i (j - i).toNat) M
  | _ => False
theorem w_iRg2 {R : List PyData → Mem → Prop} (h : pas ρ M fun cs M1 => iQ2 R cs M1) : iRg2 pas ρ M R := h
theorem w_iQ2 {R : List PyData → Mem → Prop} {i j : Int} (h1 : -(2 ^ 62) ≤ i ∧ i < 2 ^ 62 ∧ -(2 ^ 62) ≤ j ∧ j < 2 ^ 62) (h : R (intsFrom i (j - i).toNat) M) : iQ2 R [.d (.int i), .d (.int j)] M := ⟨h1, h⟩
def iQE (Q : List PyData → Mem → Prop) (cs : List Cell) (M : Mem) : Prop := match cs with
  | [c] => iQL (fun xs M2 => Q (numbered 0 xs) M2) c M
  | _ => False
theorem w_iEnm {R : List PyData → Mem → Prop} (h : pas ρ M fun cs M1 => iQE R cs M1) : iEnm pas ρ M R := h
theorem w_iQE {R : List PyData → Mem → Prop} {c : Cell} (h : iQL (fun xs M2 => R (numbered 0 xs) M2) c M) : iQE R [c] M := h
def iQZ (Q : List PyData → Mem → Prop) (cs : List Cell) (M : Mem) : Prop := match asDs cs M with
  | some ([.list xs, .list ys], M2) => Q (paired xs ys) M2
  | _ => False
theorem w_iZp {R : List PyData → Mem → Prop} (h : pas ρ M fun cs M1 => iQZ R cs M1) : iZp pas ρ M R := h
theorem w_iQZ {R : List PyData → Mem → Prop} {cs : List Cell} {ys : List PyData} {M2 : Mem} (e : asDs cs M = some ([.list xs, .list ys], M2)) (h : R (paired xs ys) M2) : iQZ R cs M := by
  unfold iQZ
  rw [e]
  exact h
def apQ (Q : Mem → Prop) (c x : Cell) (M : Mem) : Prop := match c with
  | .r n => (match asD x M with
    | some (d, M3) => (match M3[n]? with
      | some (.live xs) => xs.length < sizeLine ∧ Q (M3.set n (.live (xs ++ [d])))
      | _ => False)
    | none => False)
  | _ => False
theorem w_app {po pv : Px} (h : po ρ M fun c M1 => isLst c M1 ∧ pv ρ M1 fun x M2 => apQ (fun M3 => D.nx ρ M3) c x M2) : pApp po pv D ρ M := h
theorem w_isl {n : Nat} {A : Prop} {xs : List PyData} (h1 : M[n]? = some (.live xs)) (h : A) : isLst (.r n) M ∧ A := ⟨⟨xs, .inl h1⟩, h⟩
theorem w_apQ {R : Mem → Prop} {n : Nat} {x : Cell} {d : PyData} {M3 : Mem} {xs : List PyData} (e : asD x M = some (d, M3)) (e2 : M3[n]? = some (.live xs)) (hl : xs.length < sizeLine) (h : R (M3.set n (.live (xs ++ [d])))) : apQ R (.r n) x M := by
  unfold apQ
  dsimp only
  rw [e]
  dsimp only
  rw [e2]
  exact ⟨hl, h⟩
/-- a loop: I what holds between two turns; N is what the turn is to reach -/
theorem runL_inv (I : Nat → Rho → Mem → Prop) (h0 : I 0 ρ M) (hs : ∀ (i : Nat) (x : PyData) (ρ : Rho) (M : Mem) (N : Rho → Mem → Prop), xs[i]? = some x → I i ρ M → (∀ ρ' M', I (i + 1) ρ' M' → N ρ' M') →
    g (.d x) ρ M fun ρ2 M2 => pb { nx := N, rt := D.rt, bk := D.nx, ct := N } ρ2 M2) (hd : ∀ ρ M, I xs.length ρ M → D.nx ρ M) : runL g pb D xs ρ M := by
  have key : ∀ (n i : Nat) (ρ : Rho) (M : Mem), xs.length - i = n → i ≤ xs.length → I i ρ M → runL g pb D (xs.drop i) ρ M := fun n => by
    induction n with
    | zero =>
      intro i ρ M hn hi h
      have e : i = xs.length := by omega
      subst e
      rw [List.drop_length]
      exact hd ρ M h
    | succ n ih =>
      intro i ρ M hn hi h
      have hlt : i < xs.length := by omega
      rw [List.drop_eq_getElem_cons hlt]
      exact hs i xs[i] ρ M _ (List.getElem?_eq_getElem hlt) h fun ρ' M' h' => ih (i + 1) ρ' M' (by omega) hlt h'
  exact key _ 0 ρ M rfl (Nat.zero_le _) h0
theorem runC_inv (I : Nat → List PyData → Mem → Prop) (h0 : I 0 [] M) (hs : ∀ (i : Nat) (x : PyData) (acc : List PyData) (M : Mem) (N : List PyData → Mem → Prop), xs[i]? = some x → I i acc M → (∀ acc' M', I (i + 1) acc' M' → N acc' M') →
    g (.d x) ρ M fun ρ2 M2 => pt ρ2 M2 fun b M3 => (b = true → pe ρ2 M3 fun c M4 => match asD c M4 with
      | some (d, M5) => acc.length < sizeLine ∧ N (acc ++ [d]) M5
      | none => False) ∧ (b = false → N acc M3)) (hd : ∀ acc M, I xs.length acc M → Q (.r M.length) (M ++ [.live acc])) : runC g pt pe ρ Q xs [] M := by
  have key : ∀ (n i : Nat) (acc : List PyData) (M : Mem), xs.length - i = n → i ≤ xs.length → I i acc M → runC g pt pe ρ Q (xs.drop i) acc M := fun n => by
    induction n with
    | zero =>
      intro i acc M hn hi h
      have e : i = xs.length := by omega
      subst e
      rw [List.drop_length]
      exact hd acc M h
    | succ n ih =>
      intro i acc M hn hi h
      have hlt : i < xs.length := by omega
      rw [List.drop_eq_getElem_cons hlt]
      exact hs i xs[i] acc M (fun acc' M' => runC g pt pe ρ Q (xs.drop (i + 1)) acc' M') (List.getElem?_eq_getElem hlt) h fun acc' M' h' => ih (i + 1) acc' M' (by omega) hlt h'
  exact key _ 0 [] M rfl (Nat.zero_le _) h0
theorem take_succ_get {α : Type} {xs : List α} {i : Nat} {x : α} (h : xs[i]? = some x) : xs.take (i + 1) = xs.take i ++ [x] := by
  rw [List.take_add_one, h] <;> rfl
def kD (K : PyData → Mem → Prop) (c : Cell) (M : Mem) : Prop := match asD c M with
  | some (d, M5) => K d M5
  | none => False
theorem w_kDd {K : PyData → Mem → Prop} {x : PyData} (h : K x M) : kD K (.d x) M := h
theorem w_kDr {K : PyData → Mem → Prop} {n : Nat} {x : PyData} {M2 : Mem} (e : asD (.r n) M = some (x, M2)) (h : K x M2) : kD K (.r n) M := by
  unfold kD
  rw [e]
  exact h
/-- each item told by a function, nothing of one's own changed -/
theorem runC_map {f : PyData → PyData} (hlen : xs.length ≤ 1000000) (hs : ∀ x ∈ xs, ∀ K : PyData → Mem → Prop, K (f x) M → g (.d x) ρ M fun ρ2 M2 => pe ρ2 M2 fun c M4 => kD K c M4) (hd : Q (.r M.length) (M ++ [.live (xs.map f)])) : runC g pYes pe ρ Q xs [] M := by
  refine runC_inv (fun i acc M' => acc = (xs.take i).map f ∧ M' = M) ⟨rfl, rfl⟩ (fun i x acc M' N hx hI hN => ?_) fun acc M' h => ?_
  · obtain ⟨rfl, rfl⟩ := hI
    have hm := List.mem_of_getElem? hx
    have hl : ((xs.take i).map f).length < sizeLine := by
      rw [List.length_map, List.length_take]
      have : (1000000 : Nat) < sizeLine := by decide
      omega
    have := hs x hm (fun d M5 => ((xs.take i).map f).length < sizeLine ∧ N ((xs.take i).map f ++ [d]) M5) ⟨hl, hN _ _ ⟨by rw [take_succ_get hx, List.map_append] <;> rfl, rfl⟩⟩
    show g (.d x) ρ _ fun ρ2 M2 => (true = true → pe ρ2 M2 _) ∧ (true = false → _)
    have e : (fun (ρ2 : Rho) (M2 : Mem) => (true = true → pe ρ2 M2 fun c M4 => match asD c M4 with
      | some (d, M5) => ((xs.take i).map f).length < sizeLine ∧ N ((xs.take i).map f ++ [d]) M5
      | none => False) ∧ (true = false → N ((xs.take i).map f) M2)) = fun ρ2 M2 => pe ρ2 M2 fun c M4 => kD (fun d M5 => ((xs.take i).map f).length < sizeLine ∧ N ((xs.take i).map f ++ [d]) M5) c M4 := by
      funext ρ2 M2
      exact propext ⟨fun h => h.1 rfl, fun h => ⟨fun _ => h, nofun⟩⟩
    rw [e]
    exact this
  · obtain ⟨rfl, rfl⟩ := h
    rw [List.take_length]
    exact hd
end
end Kt

set_option Elab.async false
set_option linter.all false
set_option maxRecDepth 100000
set_option maxHeartbeats 2000000
namespace Kt
open PySem PySem.Spec PyProof.Rows L2

/-- numbers of at most 250 digits -/
def Sm0 (i : Int) : Prop := -(10 ^ 250 : Int) < i ∧ i < 10 ^ 250
section
variable {ρ : Rho} {M : Mem} {Q : Qx} {pe : Px} {pl pu : Po} {xs : List PyData}
/-! ## slices -/
def slQ (Q : Qx) (c : Cell) (lo hi : Option Int) (M : Mem) : Prop := match deref c M with
  | some (.list xs) => Q (.r M.length) (M ++ [.live (cutD xs lo hi)])
  | _ => False
theorem w_sl (h : pe ρ M fun c M1 => pl ρ M1 fun lo M2 => pu ρ M2 fun hi M3 => slQ Q c lo hi M3) : pSl pe pl pu ρ M Q := h
theorem w_nop {R : Option Int → Mem → Prop} (h : R none M) : pNoP ρ M R := h
def paQ (R : Option Int → Mem → Prop) (c : Cell) (M : Mem) : Prop := match c with
  | .d (.int i) => R (some i) M
  | _ => False
theorem w_part {R : Option Int → Mem → Prop} (h : pe ρ M fun c M1 => paQ R c M1) : pPart pe ρ M R := h
theorem w_paQ {R : Option Int → Mem → Prop} {i : Int} (h : R (some i) M) : paQ R (.d (.int i)) M := h
theorem w_slQd {lo hi : Option Int} {ys : List PyData} (e : cutD xs lo hi = ys) (h : Q (.r M.length) (M ++ [.live ys])) : slQ Q (.d (.list xs)) lo hi M := by
  rw [← e] at h
  exact h
theorem w_slQr {n : Nat} {lo hi : Option Int} {ys : List PyData} (m : deref (.r n) M = some (.list xs)) (e : cutD xs lo hi = ys) (h : Q (.r M.length) (M ++ [.live ys])) : slQ Q (.r n) lo hi M := by
  unfold slQ
  rw [m]
  dsimp only
  rw [e]
  exact h
theorem cut_tail (x : PyData) (xs : List PyData) : cutD (x :: xs) (some 1) none = xs := by
  unfold cutD
  rw [show HT.sIx (x :: xs).length 0 (some 1) = min 1 (x :: xs).length from HT.sIx_nat (x :: xs).length 0 1, HT.sIx_none]
  rw [show min 1 (x :: xs).length = 1 from by rw [List.length_cons]; omega]
  show List.take ((x :: xs).length - 1) xs = xs
  rw [List.length_cons, Nat.add_sub_cancel]
  exact List.take_length
/-! ## == of lists and tuples -/
theorem w_eqG {x y : Cell} {a b : PyData} (ha : derefS x M = some a) (hb : derefS y M = some b) (h : eqQ a b fun k => Q (.d (.bool k)) M) : pEq x y M Q := by
  unfold pEq
  rw [ha, hb]
  exact h
theorem w_neG {x y : Cell} {a b : PyData} (ha : derefS x M = some a) (hb : derefS y M = some b) (h : eqQ a b fun k => Q (.d (.bool (!k))) M) : pNe x y M Q := by
  unfold pNe
  rw [ha, hb]
  exact h
theorem w_eqL {ys : List PyData} {k : Bool → Prop} {b : Bool} (s : Shd (.list xs) (.list ys)) (e : PyData.eqvAll xs ys = b) (h : k b) : eqQ (.list xs) (.list ys) k := by
  rw [← e] at h
  exact ⟨s, by simpa only [PyData.eqv] using h⟩
theorem w_eqT {ys : List PyData} {k : Bool → Prop} {b : Bool} (s : Shd (.tuple xs) (.tuple ys)) (e : PyData.eqvAll xs ys = b) (h : k b) : eqQ (.tuple xs) (.tuple ys) k := by
  rw [← e] at h
  exact ⟨s, by simpa only [PyData.eqv] using h⟩
theorem eqvAll_refl {xs : List PyData} (h : PyData.canLayAll0 xs = true) : PyData.eqvAll xs xs = true := by
  have := SeqAt.eqv_refl (.list xs)
  simpa [PyData.eqv] using this (by simpa [PyData.canLay0] using h)
end
theorem lay_all : ∀ {xs : List PyData}, (∀ x ∈ xs, x.canLay0 = true) → PyData.canLayAll0 xs = true
  | [], _ => by simp [PyData.canLayAll0]
  | x :: xs, h => by
    simp only [PyData.canLayAll0, Bool.and_eq_true]
    exact ⟨h x List.mem_cons_self, lay_all fun y hy => h y (List.mem_cons_of_mem _ hy)⟩
theorem dep_all {n : Nat} : ∀ {xs : List PyData}, (∀ x ∈ xs, x.depth ≤ n) → PyData.depthAll xs ≤ n
  | [], _ => by simp [PyData.depthAll]
  | x :: xs, h => by
    simp only [PyData.depthAll]
    exact Nat.max_le.mpr ⟨h x List.mem_cons_self, dep_all fun y hy => h y (List.mem_cons_of_mem _ hy)⟩
/-- data of a small depth that may be compared and shown -/
structure Shw (n b : Nat) (d : PyData) : Prop where
  lay : d.canLay0 = true
  dep : d.depth ≤ n
  sho : d.showable = true
  lvs : d.leavesShort 1921 = true
  blk : d.bulk ≤ b
theorem log2_small {i : Int} (h : Sm0 i) : i.natAbs.log2 < 1920 := by
  unfold Sm0 at h
  by_cases h0 : i.natAbs = 0
  · rw [h0]; decide
  · refine (Nat.log2_lt h0).mpr ?_
    have : i.natAbs < 10 ^ 250 := by omega
    exact Nat.lt_trans this (by decide)
theorem Shw.int {n b : Nat} {i : Int} (h : Sm0 i) : Shw n b (.int i) :=
  ⟨rfl, Nat.zero_le _, decide_eq_true (log2_small h), decide_eq_true (int_text_len_1921 (log2_small h)), Nat.zero_le _⟩
theorem Shw.non {n b : Nat} : Shw n b .none := ⟨rfl, Nat.zero_le _, rfl, rfl, Nat.zero_le _⟩
theorem Shw.bl {n b : Nat} {k : Bool} : Shw n b (.bool k) := ⟨rfl, Nat.zero_le _, rfl, rfl, Nat.zero_le _⟩
theorem sho_all : ∀ {xs : List PyData}, (∀ x ∈ xs, x.showable = true) → PyData.showableAll xs = true
  | [], _ => by simp [PyData.showableAll]
  | x :: xs, h => by
    simp only [PyData.showableAll, Bool.and_eq_true]
    exact ⟨h x List.mem_cons_self, sho_all fun y hy => h y (List.mem_cons_of_mem _ hy)⟩
theorem lvs_all {B : Nat} : ∀ {xs : List PyData}, (∀ x ∈ xs, x.leavesShort B = true) → PyData.leavesShortAll B xs = true
  | [], _ => by simp [PyData.leavesShortAll]
  | x :: xs, h => by
    simp only [PyData.leavesShortAll, Bool.and_eq_true]
    exact ⟨h x List.mem_cons_self, lvs_all fun y hy => h y (List.mem_cons_of_mem _ hy)⟩
theorem blk_all {b : Nat} : ∀ {xs : List PyData}, (∀ x ∈ xs, x.bulk ≤ b) → PyData.bulkAll xs ≤ xs.length * (b + 1)
  | [], _ => by simp [PyData.bulkAll]
  | x :: xs, h => by
    have h1 := h x List.mem_cons_self
    have h2 := blk_all fun y hy => h y (List.mem_cons_of_mem _ hy)
    simp only [PyData.bulkAll, List.length_cons, Nat.succ_mul]
    omega
theorem Shw.tup {n b c : Nat} {xs : List PyData} (h : ∀ x ∈ xs, Shw n b x) (hc : xs.length * (b + 1) ≤ c) : Shw (n + 1) c (.tuple xs) :=
  ⟨by simpa [PyData.canLay0] using lay_all fun x hx => (h x hx).lay, by simp only [PyData.depth]; exact Nat.succ_le_succ (dep_all fun x hx => (h x hx).dep),
    by simpa [PyData.showable] using sho_all fun x hx => (h x hx).sho, by simpa [PyData.leavesShort] using lvs_all fun x hx => (h x hx).lvs, by simp only [PyData.bulk]; exact Nat.le_trans (blk_all fun x hx => (h x hx).blk) hc⟩
theorem Shw.lst {n b c : Nat} {xs : List PyData} (h : ∀ x ∈ xs, Shw n b x) (hc : xs.length * (b + 1) ≤ c) : Shw (n + 1) c (.list xs) :=
  ⟨by simpa [PyData.canLay0] using lay_all fun x hx => (h x hx).lay, by simp only [PyData.depth]; exact Nat.succ_le_succ (dep_all fun x hx => (h x hx).dep),
    by simpa [PyData.showable] using sho_all fun x hx => (h x hx).sho, by simpa [PyData.leavesShort] using lvs_all fun x hx => (h x hx).lvs, by simp only [PyData.bulk]; exact Nat.le_trans (blk_all fun x hx => (h x hx).blk) hc⟩
theorem Shw.rp {n b : Nat} {d : PyData} (h : Shw n b d) (hn : n ≤ 40) (hb : b ≤ 8000) : reprOk d :=
  ⟨dOk_of_lay _ h.lay, h.sho, Nat.le_trans h.dep hn, by
    have h1 := PyData.shown_le_bulk 1921 (by decide) d h.lvs
    have h2 := h.blk
    rw [sizeLine_eq]
    omega⟩
theorem Shw.sh {n b m c : Nat} {x y : PyData} (h : Shw n b x) (h' : Shw m c y) (hn : n ≤ 40) (hm : m ≤ 40) : Shd x y :=
  ⟨by unfold SeqAt.shaped; rw [h.lay, Bool.true_and]; exact decide_eq_true (by have := h.dep; omega), by unfold SeqAt.shaped; rw [h'.lay, Bool.true_and]; exact decide_eq_true (by have := h'.dep; omega)⟩
theorem Shw.allL {n b : Nat} {xs : List PyData} (h : Shw n b (.list xs)) : PyData.eqvAll xs xs = true := eqvAll_refl (by have := h.lay; simpa [PyData.canLay0] using this)
theorem Shw.allT {n b : Nat} {xs : List PyData} (h : Shw n b (.tuple xs)) : PyData.eqvAll xs xs = true := eqvAll_refl (by have := h.lay; simpa [PyData.canLay0] using this)
theorem w_rp {M : Mem} {Q : Qx} {c : Cell} {d : PyData} (m : deref c M = some d) (hd : reprOk d) (h : Q (.d (.str d.shown)) M) : rRp [c] M Q := by
  unfold rRp
  dsimp only
  rw [m]
  exact ⟨hd, h⟩
end Kt

set_option Elab.async false
set_option linter.all false
set_option maxRecDepth 100000
set_option maxHeartbeats 2000000
namespace Kt
open PySem PySem.Spec PyProof.Rows L2

/-! ## what may be compared -/
structure Fl (n : Nat) (d : PyData) : Prop where
  lay : d.canLay0 = true
  dep : d.depth ≤ n
theorem Fl.int {i : Int} {n : Nat} : Fl n (.int i) := ⟨rfl, Nat.zero_le _⟩
theorem Fl.non {n : Nat} : Fl n .none := ⟨rfl, Nat.zero_le _⟩
theorem Fl.bl {b : Bool} {n : Nat} : Fl n (.bool b) := ⟨rfl, Nat.zero_le _⟩
theorem Fl.tup {n : Nat} {xs : List PyData} (h : ∀ x ∈ xs, Fl n x) : Fl (n + 1) (.tuple xs) :=
  ⟨by simpa [PyData.canLay0] using lay_all fun x hx => (h x hx).lay, by simp only [PyData.depth]; exact Nat.succ_le_succ (dep_all fun x hx => (h x hx).dep)⟩
theorem Fl.lst {n : Nat} {xs : List PyData} (h : ∀ x ∈ xs, Fl n x) : Fl (n + 1) (.list xs) :=
  ⟨by simpa [PyData.canLay0] using lay_all fun x hx => (h x hx).lay, by simp only [PyData.depth]; exact Nat.succ_le_succ (dep_all fun x hx => (h x hx).dep)⟩
theorem Fl.sh {n m : Nat} {a b : PyData} (h : Fl n a) (h' : Fl m b) (hn : n ≤ 40) (hm : m ≤ 40) : Shd a b :=
  ⟨by unfold SeqAt.shaped; rw [h.lay, Bool.true_and]; exact decide_eq_true (by have := h.dep; omega), by unfold SeqAt.shaped; rw [h'.lay, Bool.true_and]; exact decide_eq_true (by have := h'.dep; omega)⟩
theorem Fl.allL {n : Nat} {xs : List PyData} (h : Fl n (.list xs)) : PyData.eqvAll xs xs = true := eqvAll_refl (by have := h.lay; simpa [PyData.canLay0] using this)
theorem Fl.allT {n : Nat} {xs : List PyData} (h : Fl n (.tuple xs)) : PyData.eqvAll xs xs = true := eqvAll_refl (by have := h.lay; simpa [PyData.canLay0] using this)
theorem Fl.ints {n : Nat} : ∀ {is : List Int}, ∀ x ∈ is.map PyData.int, Fl n x := fun x hx => by
  obtain ⟨i, _, rfl⟩ := List.mem_map.mp hx
  exact .int
theorem eqvAll_nil {xs : List PyData} : PyData.eqvAll xs [] = xs.isEmpty := by
  cases xs <;> simp [PyData.eqvAll]
/-! ## the least of pairs -/
theorem lt_pair (a b c d : Int) : PySem.W.dataLt (.tuple [.int a, .int b]) (.tuple [.int c, .int d]) = decide (a < c ∨ (a = c ∧ b < d)) := by
  rw [PySem.W.dataLt_tuple]
  by_cases h : a = c
  · rw [PySem.W.dataLt_all_yes rfl (by simp [PyData.eqv, h])]
    by_cases h2 : b = d
    · rw [PySem.W.dataLt_all_yes rfl (by simp [PyData.eqv, h2])]
      refine Eq.trans (b := false) rfl ?_
      symm
      exact decide_eq_false (by omega)
    · rw [PySem.W.dataLt_all_no rfl (by simp [PyData.eqv, h2]), PySem.W.dataLt_int]
      exact decide_eq_decide.mpr (by omega)
  · rw [PySem.W.dataLt_all_no rfl (by simp [PyData.eqv, h]), PySem.W.dataLt_int]
    exact decide_eq_decide.mpr (by omega)
section
variable {ρ : Rho} {M : Mem} {Q : Qx} {pe : Px} {xs : List PyData}
theorem w_minD {c : Cell} {x z : PyData} (m : deref c M = some (.list (x :: xs))) (ha : PySem.W.AlikeAll (x :: xs)) (hf : Fl 40 (.list (x :: xs))) (e : PySem.W.minD x xs = z) (h : Q (.d z) M) : rMinD [c] M Q := by
  unfold rMinD
  dsimp only
  rw [m]
  subst e
  exact ⟨⟨ha, hf.lay, hf.dep⟩, h⟩
/-! ## indexes -/
theorem w_ixs {ns : List Int} {i n : Int} (e : atI ns i = some n) (h : Q (.d (.int n)) M) : pIx (.s ns) (.d (.int i)) M Q := by
  unfold pIx
  dsimp only
  rw [e]
  exact h
theorem atI_nat {α : Type} {xs : List α} {i : Int} (h0 : 0 ≤ i) (h1 : i < xs.length) : ∃ x, atI xs i = some x ∧ xs[i.toNat]? = some x := by
  have e : i = ((i.toNat : Nat) : Int) := by omega
  have hl : i.toNat < xs.length := by omega
  have g : xs[i.toNat]? = some xs[i.toNat] := List.getElem?_eq_getElem hl
  refine ⟨xs[i.toNat], ?_, g⟩
  have := L2.atI_nat g
  rw [← e] at this
  exact this
/-- whatever the index is: one of the items -/
theorem w_ixP {n : Nat} {i : Int} (P : PyData → Prop) (m : deref (.r n) M = some (.list xs)) (h0 : 0 ≤ i) (h1 : i < xs.length) (hp : ∀ x ∈ xs, P x) (h : ∀ x, P x → Q (.d x) M) : pIx (.r n) (.d (.int i)) M Q := by
  obtain ⟨x, e, e2⟩ := atI_nat h0 h1
  exact w_ixr m e (h x (hp x (List.mem_of_getElem? e2)))
/-! ## xs[i] = x -/
def giQ (R : Rho → Mem → Prop) (ρ : Rho) (x c i : Cell) (M : Mem) : Prop := match c, i with
  | .r n, .d (.int k) => (match asD x M with
    | some (d, M3) => (match M3[n]? with
      | some (.live xs) => (match ixN xs.length k with
        | some j => R ρ (M3.set n (.live (xs.set j d)))
        | none => False)
      | _ => False)
    | none => False)
  | _, _ => False
theorem w_gix {po pi : Px} {x : Cell} {R : Rho → Mem → Prop} (h : po ρ M fun c M1 => pi ρ M1 fun i M2 => giQ R ρ x c i M2) : gIx po pi x ρ M R := h
theorem w_giQ {R : Rho → Mem → Prop} {x : Cell} {n j : Nat} {k : Int} {d : PyData} {M3 : Mem} (e : asD x M = some (d, M3)) (e2 : M3[n]? = some (.live xs)) (e3 : ixN xs.length k = some j) (h : R ρ (M3.set n (.live (xs.set j d)))) : giQ R ρ x (.r n) (.d (.int k)) M := by
  unfold giQ
  dsimp only
  rw [e]
  dsimp only
  rw [e2]
  dsimp only
  rw [e3]
  exact h
/-! ## a comprehension over few items -/
theorem w_cN {g : Pg} {pt : Pt} {acc : List PyData} (h : Q (.r M.length) (M ++ [.live acc])) : runC g pt pe ρ Q [] acc M := h
theorem w_cC {g : Pg} {x : PyData} {acc : List PyData} (hl : acc.length < sizeLine) (h : g (.d x) ρ M fun ρ2 M2 => pe ρ2 M2 fun c M4 => kD (fun d M5 => runC g pYes pe ρ Q xs (acc ++ [d]) M5) c M4) : runC g pYes pe ρ Q (x :: xs) acc M := by
  show g (.d x) ρ M fun ρ2 M2 => (true = true → pe ρ2 M2 _) ∧ (true = false → _)
  have e : (fun (ρ2 : Rho) (M2 : Mem) => (true = true → pe ρ2 M2 fun c M4 => match asD c M4 with
      | some (d, M5) => acc.length < sizeLine ∧ runC g pYes pe ρ Q xs (acc ++ [d]) M5
      | none => False) ∧ (true = false → runC g pYes pe ρ Q xs acc M2)) = fun ρ2 M2 => pe ρ2 M2 fun c M4 => kD (fun d M5 => runC g pYes pe ρ Q xs (acc ++ [d]) M5) c M4 := by
    funext ρ2 M2
    have e2 : (fun (c : Cell) (M4 : Mem) => match asD c M4 with
      | some (d, M5) => acc.length < sizeLine ∧ runC g pYes pe ρ Q xs (acc ++ [d]) M5
      | none => False) = fun c M4 => kD (fun d M5 => runC g pYes pe ρ Q xs (acc ++ [d]) M5) c M4 := by
      funext c M4
      unfold kD
      split
      · rename_i d M5 e1
        first
          | exact propext ⟨fun h => h.2, fun h => ⟨hl, h⟩⟩
          | (rw [e1]; exact propext ⟨fun h => h.2, fun h => ⟨hl, h⟩⟩)
      · rename_i e1
        first
          | rfl
          | rw [e1]
    rw [e2]
    exact propext ⟨fun h => h.1 rfl, fun h => ⟨fun _ => h, nofun⟩⟩
  exact Eq.mpr (congrArg (fun z => g (.d x) ρ M z) e) h
theorem w_pow {i j z : Int} (c : CPowW i j) (e : i ^ j.toNat = z) (h : Q (.d (.int z)) M) : pII CPowW (fun i j => .int (i ^ j.toNat)) (.d (.int i)) (.d (.int j)) M Q := by
  subst e
  exact ⟨c, h⟩
theorem pow_small {i j : Int} (h : Sm0 i) (h0 : 0 ≤ j) (h1 : j ≤ 1000) : CPowW i j := by
  have := log2_small h
  refine ⟨h0, ?_⟩
  have h2 : (i.natAbs.log2 + 1 : Int) * j ≤ (i.natAbs.log2 + 1 : Int) * 1000 := Int.mul_le_mul_of_nonneg_left h1 (by omega)
  omega
end
theorem all_n {P : PyData → Prop} : ∀ x ∈ ([] : List PyData), P x := fun x hx => by cases hx
theorem all_c {P : PyData → Prop} {a : PyData} {l : List PyData} (h : P a) (h2 : ∀ x ∈ l, P x) : ∀ x ∈ a :: l, P x := fun x hx => by
  cases hx with
  | head => exact h
  | tail _ hx => exact h2 x hx
theorem deref_last2 {x y x' y' : MC} {M2 : Mem} {l : List PyData} : deref (.r (x :: y :: M2).length) (x' :: y' :: (M2 ++ [.live l])) = some (.list l) := by
  unfold deref
  simp
theorem deref_last3 {x y z x' y' z' : MC} {M2 : Mem} {l : List PyData} : deref (.r (x :: y :: z :: M2).length) (x' :: y' :: z' :: (M2 ++ [.live l])) = some (.list l) := by
  unfold deref
  simp
theorem deref_last1 {x x' : MC} {M2 : Mem} {l : List PyData} : deref (.r (x :: M2).length) (x' :: (M2 ++ [.live l])) = some (.list l) := by
  unfold deref
  simp
theorem intsOf_map : ∀ (is : List Int), intsOf (is.map .int) = some is
  | [] => rfl
  | i :: r => by
    rw [List.map_cons]
    unfold intsOf
    rw [intsOf_map r]
theorem w_sm {M : Mem} {Q : Qx} {c : Cell} {is : List Int} (m : deref c M = some (.list (is.map .int))) (h : Q (.d (.int is.sum)) M) : rSm [c] M Q := by
  unfold rSm
  dsimp only
  rw [m]
  dsimp only
  rw [intsOf_map]
  exact h
theorem w_lsD {M : Mem} {Q : Qx} {xs : List PyData} (h : Q (.r M.length) (M ++ [.live xs])) : rLs [.d (.list xs)] M Q := h
theorem w_lsR {M : Mem} {Q : Qx} {n : Nat} {xs : List PyData} (m : deref (.r n) M = some (.list xs)) (h : Q (.r M.length) (M ++ [.live xs])) : rLs [.r n] M Q := by
  unfold rLs
  dsimp only
  rw [m]
  exact h
theorem w_addL {M : Mem} {Q : Qx} {x y : Cell} {a b : List PyData} (m1 : deref x M = some (.list a)) (m2 : deref y M = some (.list b)) (hl : a.length + b.length ≤ sizeLine) (h : Q (.r M.length) (M ++ [.live (a ++ b)])) : pAdd x y M Q := by
  unfold pAdd
  rw [m1, m2]
  exact ⟨hl, h⟩
/-- the last of b, l .. -/
def lastI (b : Int) : List Int → Int
  | [] => b
  | l :: r => lastI l r
theorem atI_lastI : ∀ (L : List Int) (b : Int), atI ((b :: L).map PyData.int) (-1) = some (.int (lastI b L)) := fun L b => by
  have key : ∀ (L : List Int) (b : Int), ∃ init, b :: L = init ++ [lastI b L] := fun L => by
    induction L with
    | nil => exact fun b => ⟨[], rfl⟩
    | cons l r ih =>
      intro b
      obtain ⟨i, e⟩ := ih l
      exact ⟨b :: i, congrArg (List.cons b) e⟩
  obtain ⟨i, e⟩ := key L b
  rw [e, List.map_append]
  exact L2.atI_last _ _
theorem runC_invM {g : Pg} {pt : Pt} {pe : Px} {ρ : Rho} {Q : Qx} {xs : List PyData} {M : Mem} (I : Nat → List PyData → Prop) (h0 : I 0 []) (hs : ∀ (i : Nat) (x : PyData) (acc : List PyData) (N : List PyData → Mem → Prop), xs[i]? = some x → I i acc → (∀ acc', I (i + 1) acc' → N acc' M) →
    g (.d x) ρ M fun ρ2 M2 => pt ρ2 M2 fun b M3 => (b = true → pe ρ2 M3 fun c M4 => match asD c M4 with
      | some (d, M5) => acc.length < sizeLine ∧ N (acc ++ [d]) M5
      | none => False) ∧ (b = false → N acc M3)) (hd : ∀ acc, I xs.length acc → Q (.r M.length) (M ++ [.live acc])) : runC g pt pe ρ Q xs [] M := by
  refine runC_inv (fun i acc M' => I i acc ∧ M' = M) ⟨h0, rfl⟩ (fun i x acc M' N hx h hN => ?_) fun acc M' h => ?_
  · obtain ⟨h, rfl⟩ := h
    exact hs i x acc N hx h fun acc' h' => hN acc' _ ⟨h', rfl⟩
  · obtain ⟨h, rfl⟩ := h
    exact hd acc h
theorem ints_len {lo : Int} {n : Nat} : (Kt.intsFrom lo n).length = n := by unfold Kt.intsFrom; rw [List.length_map, List.length_range]
theorem ints_get {n i : Nat} {x : PyData} (h : (Kt.intsFrom 0 n)[i]? = some x) : i < n ∧ x = .int (i : Int) := by
  have hi := (List.getElem?_eq_some_iff.mp h).1
  rw [ints_len] at hi
  unfold Kt.intsFrom at h
  rw [List.getElem?_map, List.getElem?_range hi] at h
  exact ⟨hi, by simpa using h.symm⟩
end Kt

set_option Elab.async false
set_option linter.all false
set_option maxRecDepth 100000
set_option maxHeartbeats 2000000
namespace Kt
open PySem PySem.Spec PyProof.Rows L2

/-! ## a comprehension over a list that is still one's own -/
abbrev PiP := Rho → Mem → ((Mem → Prop) → List PyData → Mem → Prop) → Prop
structure RunsP (Pm : Mem → Prop) (K : PySem.W.Frag) (J : It) (B : Hp) (as : List Addr) (H : Hp) (xs : List PyData) : Prop where
  turn : ∀ (i : Nat) (x : PyData) (M : Mem) (B' : Hp) (as' : List Addr) (H' : Hp), xs[i]? = some x → Pm M → Gr B as H B' as' H' → Sat K M B' as' H' → J.go i H' ∧
    ∀ v H2, J.yld i H' v H2 → ∃ B2, Sat K M B2 as' H2 ∧ Gr B' as' H' B2 as' H2 ∧ Rp K B2 v x
  stop : ∀ (M : Mem) (B' : Hp) (as' : List Addr) (H' : Hp), Pm M → Gr B as H B' as' H' → Sat K M B' as' H' → J.stop xs.length H'
def SimIP (Z : Wi) (wi : TI) (p : PiP) : Prop := ∀ ρ M Qh, p ρ M Qh → ∀ B as σ H (R : It → Hp → Prop), Sat Z.K M B as H → Slots Z.K B as ρ σ → ExOk Z B as H →
  (∀ Pm xs M' B' as' H' J, Qh Pm xs M' → Gr B as H B' as' H' → Sat Z.K M' B' as' H' → RunsP Pm Z.K J B' as' H' xs → R J H') → wi σ H R
structure YIP (X : Cy) (tg e : Expr) (p : PiP) : Prop where ex : ∃ t, PI X tg e t ∧ SimIP X.z t p
def iLive (p : Px) : PiP := fun ρ M Q => p ρ M fun c M1 => match c with
  | .r n => (match M1[n]? with
    | some (.live xs) => Q (fun M => M[n]? = some (.live xs)) xs M1
    | _ => False)
  | _ => False
theorem runsP_live {K : PySem.W.Frag} {M : Mem} {B H : Hp} {as : List Addr} {xs : List PyData} {l : Addr} {n : Nat} (ha : as[n]? = some l) : RunsP (fun M => M[n]? = some (.live xs)) K (Itl K l) B as H xs := by
  have up : ∀ (M : Mem) (B' : Hp) (as' : List Addr) (H' : Hp), M[n]? = some (.live xs) → Gr B as H B' as' H' → Sat K M B' as' H' → ∃ ws, H' l = some (.lst ws) ∧ RpAll K B' ws xs := fun M B' as' H' hm g S => by
    obtain ⟨t, e, _⟩ := g.a
    have hl : as'[n]? = some l := by
      rw [e, List.getElem?_append_left (List.getElem?_eq_some_iff.mp ha).1]
      exact ha
    obtain ⟨_, ws, h1, h2⟩ := S.mc n _ l hm hl
    exact ⟨ws, h1, h2⟩
  refine ⟨fun i x M B' as' H' e hm g S => ?_, fun M B' as' H' hm g S => ?_⟩
  · obtain ⟨ws, hw, r⟩ := up M B' as' H' hm g S
    have hs : SqL K H' l ws := .inl (.inl hw)
    obtain ⟨v, h1, h2⟩ := r.get e
    refine ⟨⟨ws, v, hs, h1⟩, fun v' H2 y => ?_⟩
    obtain ⟨rfl, q⟩ := y
    obtain rfl : v = v' := Option.some.inj (h1.symm.trans (q ws hs))
    exact ⟨B', S, S.gr, h2⟩
  · obtain ⟨ws, hw, r⟩ := up M B' as' H' hm g S
    exact ⟨ws, .inl (.inl hw), by rw [r.len]; exact Nat.le_refl _⟩
theorem yi_live {X : Cy} {tg l : Expr} {p : Px} (h : YE X l p) : YIP X tg l (iLive p) := by
  obtain ⟨t, h1, h2⟩ := h
  refine ⟨_, pi_list h1, fun ρ M Qh h B as σ H R S L W0 q => h2 ρ M _ h B as σ H _ S L W0 fun c M1 v B1 as1 H1 hh g1 S1 o1 => ?_⟩
  split at hh
  · rename_i n
    split at hh
    · rename_i xs e
      obtain ⟨l, ha, rfl⟩ := o1
      obtain ⟨_, ws, hw, r⟩ := S1.mc n _ l e ha
      exact ⟨l, rfl, ⟨ws, .inl (.inl hw)⟩, q _ xs M1 B1 as1 H1 _ hh g1 S1 (runsP_live (M := M1) ha)⟩
    · cases hh
  · cases hh
def runCP (Pm : Mem → Prop) (g : Pg) (pt : Pt) (pe : Px) (ρ : Rho) (Q : Qx) : List PyData → List PyData → Mem → Prop
  | [], acc, M => Pm M ∧ Q (.r M.length) (M ++ [.live acc])
  | x :: xs, acc, M => Pm M ∧ g (.d x) ρ M fun ρ2 M2 => pt ρ2 M2 fun b M3 => (b = true → pe ρ2 M3 fun c M4 => match asD c M4 with
    | some (d, M5) => acc.length < sizeLine ∧ runCP Pm g pt pe ρ Q xs (acc ++ [d]) M5
    | none => False) ∧ (b = false → runCP Pm g pt pe ρ Q xs acc M3)
def pLcP (pi : PiP) (g : Pg) (pt : Pt) (pe : Px) (vs : List Nat) : Px := fun ρ M Q => pi ρ M fun Pm xs M1 => runCP Pm g pt pe (wipeR ρ vs) Q xs [] M1
theorem sim_lcP {Z Zi : Wi} {wi : TI} {pi : PiP} {tg : TG} {g : Pg} {tt : TT} {pt : Pt} {te : TE} {pe : Px} {vs : List Nat} (hK : Zi.K = Z.K) (hW : ∀ x ρ M, ¬ Zi.Wh x ρ M) (h1 : SimIP Z wi pi) (h2 : SimGw vs Zi tg g) (h3 : SimT Zi tt pt) (h4 : Sim Zi te pe) : Sim Z (tLc wi tg tt te vs) (pLcP pi g pt pe vs) := fun ρ M Qh h B as σ H Q S L W0 q =>
  h1 ρ M _ h B as σ H _ S L W0 fun Pm xs M1 B1 as1 H1 J hr g1 S1 R => by
    have noX : ∀ B as H, ExOk Zi B as H := fun B as H => ⟨fun x ρ M _ _ _ _ _ h => absurd h (hW x ρ M)⟩
    intro D hD
    have D1 : D ∉ as1 := fun z => S1.free D z hD
    have b1 : B1 D = none := by
      cases e : B1 D with
      | none => rfl
      | some o =>
        have := S1.sub D o e
        rw [hD] at this
        cases this
    refine ⟨fun i m H' => m = xs.length - i ∧ i ≤ xs.length ∧ ∃ acc accV M' B' as', runCP Pm g pt pe (wipeR ρ vs) Qh (xs.drop i) acc M' ∧ Gr B1 as1 H1 B' as' H' ∧ Sat Z.K M' B' as' H' ∧ D ∉ as' ∧ B' D = none ∧ H' D = some (.lst accV) ∧ RpAll Z.K B' accV acc,
      ⟨xs.length, by simp, Nat.zero_le _, [], [], M1, B1, as1, hr, S1.gr.beside hD D1, S1.beside D1 b1, D1, b1, upd_same, .nil⟩, ?_⟩
    rintro i m H' ⟨rfl, hi, acc, accV, M', B', as', hr', g', S', Da, Db, Dh, ra⟩
    by_cases hlt : i < xs.length
    · have ex : xs[i]? = some xs[i] := List.getElem?_eq_getElem hlt
      rw [List.drop_eq_getElem_cons hlt] at hr'
      obtain ⟨hpm, hr'⟩ := hr'
      obtain ⟨go, yl⟩ := R.turn i _ M' B' as' H' ex hpm g' S'
      refine .inr ⟨go, fun H2 => i + 1 ≤ xs.length ∧ ∃ acc accV M' B' as', runCP Pm g pt pe (wipeR ρ vs) Qh (xs.drop (i + 1)) acc M' ∧ Gr B1 as1 H1 B' as' H2 ∧ Sat Z.K M' B' as' H2 ∧ D ∉ as' ∧ B' D = none ∧ H2 D = some (.lst accV) ∧ RpAll Z.K B' accV acc,
        fun H2 z => ⟨xs.length - (i + 1), by omega, rfl, z⟩, fun v H2 y => ?_⟩
      obtain ⟨B2, S2, g2, r2⟩ := yl v H2 y
      rw [← hK] at S2 r2
      have L2' : Slots Zi.K B2 as' (wipeR ρ vs) (wipe σ vs) := by
        rw [hK]
        exact (((L.mono g1).mono g').mono g2).wipe vs
      refine h2 (.d xs[i]) (wipeR ρ vs) M' _ hr' B2 as' v (wipe σ vs) H2 _ S2 L2' r2 fun ρ3 M3 B3 as3 σ3 H3 h3' g3 S3 L3 w3 => ⟨w3.trans wipe_idem, ?_⟩
      refine h3 ρ3 M3 _ h3' B3 as3 σ3 H3 _ S3 L3 (noX _ _ _) fun b M4 B4 as4 H4 h4' g4 S4 => ?_
      have gt := (g2.trans g3).trans g4
      cases b with
      | true =>
        show te σ3 H4 _
        refine h4 ρ3 M4 _ (h4'.1 rfl) B4 as4 σ3 H4 _ S4 (L3.mono g4) (noX _ _ _) fun c M5 v5 B5 as5 H5 h5 g5 S5 o5 => ?_
        split at h5
        · rename_i d M6 e
          obtain ⟨B6, S6, g6, r6⟩ := asD_ok S5 o5 e
          have ga := (gt.trans g5).trans g6
          obtain ⟨s1, s2, s3⟩ := ga.side Da Db Dh
          rw [hK] at S6 r6
          exact ⟨accV, s3, by rw [ra.len]; exact h5.1, hlt, acc ++ [d], accV ++ [v5], M6, B6, as5, h5.2, (g'.trans ga).beside hD s1, S6.beside s1 s2, s1, s2, upd_same, (ra.mono ga.b).append (.one r6)⟩
        · cases h5
      | false =>
        obtain ⟨s1, s2, s3⟩ := gt.side Da Db Dh
        rw [hK] at S4
        exact ⟨hlt, acc, accV, M4, B4, as4, h4'.2 rfl, g'.trans gt, S4, s1, s2, s3, ra.mono gt.b⟩
    · have hi' : i = xs.length := by omega
      subst hi'
      rw [List.drop_length] at hr'
      obtain ⟨hpm, hr'⟩ := hr'
      obtain ⟨S3, e3⟩ := S'.adopt Da Db Dh ra
      refine .inl ⟨R.stop M' B' as' H' hpm g' S', q _ _ _ B' (as' ++ [D]) H' hr' (g1.trans ⟨g'.b, ?_, g'.h, g'.n, g'.k⟩) S3 ⟨D, e3, rfl⟩⟩
      obtain ⟨t, e, f⟩ := g'.a
      refine ⟨t ++ [D], by rw [e, List.append_assoc], fun l hl => ?_⟩
      rcases List.mem_append.mp hl with z | z
      · exact f l z
      · rw [List.mem_singleton.mp z]
        exact hD
theorem y_lcP {X : Cy} {elt tg iter : Expr} {ifs : List Expr} {scope : Scope} {own : List (Str × Nat)} {pos : Pos} {pi : PiP} {tgt : TG} {g : Pg} {pt : Pt} {pe : Px} (hc : X.calm = true) (hN : X.N.Nodup) (hi : YIP X tg iter pi) (ok : BlkOk X.N X.env.scope scope own)
    (hg : ∀ s H C cl fp, YGw (own.map (·.2)) (blkY X s H scope (compEnvC scope cl C X.env) fp) tg tgt g) (ht : ∀ s H C cl fp, YTs (blkY X s H scope (compEnvC scope cl C X.env) fp) ifs pt)
    (he : ∀ s H C cl fp, YE (blkY X s H scope (compEnvC scope cl C X.env) fp) elt pe) (hs : ∀ x, foldedSetIterable iter X.env x = pure x := by intro _; rfl) :
    YE X (.ListComp elt [⟨tg, iter, ifs, 0⟩] scope pos) (pLcP pi g pt pe (own.map (·.2))) := by
  obtain ⟨ti, i1, i2⟩ := hi
  refine ⟨_, pe_lc (te := canE ⟨X.K, fun _ _ _ _ => False, fun _ _ _ => False⟩ pe) (tt := canT ⟨X.K, fun _ _ _ _ => False, fun _ _ _ => False⟩ pt) hc hN i1 ok (fun s H C cl fp => (hg s H C cl fp).pg) (fun s H C cl fp => can_t (ht s H C cl fp)) (fun s H C cl fp => can_e (he s H C cl fp)) hs, ?_⟩
  refine sim_lcP (Zi := ⟨X.K, fun _ _ _ _ => False, fun _ _ _ => False⟩) rfl (fun _ _ _ h => h) i2 ?_ ?_ ?_
  · exact (hg X.s_0 X.H_0 X.env.locals [] []).sim
  · exact fun ρ M Qh h B as σ H Q S L W0 q => ⟨ρ, M, Qh, B, as, h, S, L, W0, q⟩
  · exact fun ρ M Qh h B as σ H Q S L W0 q => ⟨ρ, M, Qh, B, as, h, S, L, W0, q⟩
/-! ### steps -/
section
variable {g : Pg} {pt : Pt} {pe : Px} {ρ : Rho} {Q : Qx} {xs : List PyData} {M : Mem}
def iQV (R : (Mem → Prop) → List PyData → Mem → Prop) (c : Cell) (M : Mem) : Prop := match c with
  | .r n => (match M[n]? with
    | some (.live xs) => R (fun M => M[n]? = some (.live xs)) xs M
    | _ => False)
  | _ => False
theorem w_lcP {pi : PiP} {vs : List Nat} (h : pi ρ M fun Pm xs M1 => runCP Pm g pt pe (wipeR ρ vs) Q xs [] M1) : pLcP pi g pt pe vs ρ M Q := h
theorem w_iLive {R : (Mem → Prop) → List PyData → Mem → Prop} (h : pe ρ M fun c M1 => iQV R c M1) : iLive pe ρ M R := h
theorem w_iQV {R : (Mem → Prop) → List PyData → Mem → Prop} {n : Nat} (e : M[n]? = some (.live xs)) (h : R (fun M => M[n]? = some (.live xs)) xs M) : iQV R (.r n) M := by
  unfold iQV
  dsimp only
  rw [e]
  exact h
theorem runCP_map {Pm : Mem → Prop} {f : PyData → PyData} (hp : Pm M) (hlen : xs.length ≤ 1000000) (hs : ∀ x ∈ xs, ∀ K : PyData → Mem → Prop, K (f x) M → g (.d x) ρ M fun ρ2 M2 => pe ρ2 M2 fun c M4 => kD K c M4) (hd : Q (.r M.length) (M ++ [.live (xs.map f)])) : runCP Pm g pYes pe ρ Q xs [] M := by
  have key : ∀ (ys acc : List PyData), acc.length + ys.length ≤ 1000000 → (∀ x ∈ ys, x ∈ xs) → acc ++ ys.map f = xs.map f → runCP Pm g pYes pe ρ Q ys acc M := fun ys => by
    induction ys with
    | nil =>
      intro acc _ _ e
      rw [List.map_nil, List.append_nil] at e
      subst e
      exact ⟨hp, hd⟩
    | cons y ys ih =>
      intro acc hl hm e
      refine ⟨hp, ?_⟩
      have hl' : acc.length < sizeLine := by
        have : (1000000 : Nat) < sizeLine := by decide
        rw [List.length_cons] at hl
        omega
      have := hs y (hm y List.mem_cons_self) (fun d M5 => acc.length < sizeLine ∧ runCP Pm g pYes pe ρ Q ys (acc ++ [d]) M5) ⟨hl', ih _ (by rw [List.length_append]; rw [List.length_cons] at hl; simp; omega) (fun x hx => hm x (List.mem_cons_of_mem _ hx)) (by rw [← e, List.append_assoc] <;> rfl)⟩
      have e2 : (fun (ρ2 : Rho) (M2 : Mem) => (true = true → pe ρ2 M2 fun c M4 => match asD c M4 with
        | some (d, M5) => acc.length < sizeLine ∧ runCP Pm g pYes pe ρ Q ys (acc ++ [d]) M5
        | none => False) ∧ (true = false → runCP Pm g pYes pe ρ Q ys acc M2)) = fun ρ2 M2 => pe ρ2 M2 fun c M4 => kD (fun d M5 => acc.length < sizeLine ∧ runCP Pm g pYes pe ρ Q ys (acc ++ [d]) M5) c M4 := by
        funext ρ2 M2
        exact propext ⟨fun h => h.1 rfl, fun h => ⟨fun _ => h, nofun⟩⟩
      exact Eq.mpr (congrArg (fun z => g (.d y) ρ M z) e2) this
  exact key xs [] (by simpa using hlen) (fun _ h => h) rfl
end
end Kt

set_option Elab.async false
set_option linter.all false
set_option maxRecDepth 100000
set_option maxHeartbeats 2000000
namespace Kt
open PySem PySem.Spec PyProof.Rows L2
section
variable {ρ : Rho} {M M2 : Mem} {Q : Qx} {pas : Pa} {cs : List Cell} {xs : List PyData}
/-! ## displays with own lists in them -/
def tuQ (Q : Qx) (cs : List Cell) (M : Mem) : Prop := match asDs cs M with
  | some (xs, M2) => xs.length ≤ sizeLine ∧ Q (.d (.tuple xs)) M2
  | none => False
def lsQ (Q : Qx) (cs : List Cell) (M : Mem) : Prop := match asDs cs M with
  | some (xs, M2) => xs.length ≤ sizeLine ∧ Q (.r M2.length) (M2 ++ [.live xs])
  | none => False
theorem w_tupE (h : pas ρ M fun cs M1 => tuQ Q cs M1) : pTup pas ρ M Q := h
theorem w_lstE (h : pas ρ M fun cs M1 => lsQ Q cs M1) : pLst pas ρ M Q := h
theorem w_tuQ (e : asDs cs M = some (xs, M2)) (hl : xs.length ≤ sizeLine) (h : Q (.d (.tuple xs)) M2) : tuQ Q cs M := by
  unfold tuQ
  rw [e]
  exact ⟨hl, h⟩
theorem w_lsQ (e : asDs cs M = some (xs, M2)) (hl : xs.length ≤ sizeLine) (h : Q (.r M2.length) (M2 ++ [.live xs])) : lsQ Q cs M := by
  unfold lsQ
  rw [e]
  exact ⟨hl, h⟩
end
/-- the end of a row, the script's bits told -/
theorem walk_GB {l : PySem.W.OpenLaw} {n k : Nat} {q : Program} {loose : List Str} {XP : (Str → Option Value) → Heap → Prop} {YP : World → Heap → Prop} {d : DefRec} {K : Params → PySem.W.Frag} {ct : World → CXT} {sp : World → Sp} {x : Str}
    (hn : l.most = some n) (le : n ≤ sizeLine) (hdf : d.params.defaults = []) (room : Room k callerA) (hY : ∀ (w : World) (h : Heap), YP w h → (K w.params).In h)
    (F : ∀ (w : World) (mg : Str → Option Value) (fa : Addr) (h : Heap), (K w.params).In h → h.Ns mainGlobals mg → mg d.name = some (.ref fa) → ∃ fd : FuncData, (∀ (s : Shared) (u : Value), BindsTo s fd ⟨[u], []⟩ [(x, u)]) ∧
      ∀ base : Heap, (K w.params).In base → base.Ns mainGlobals mg → FnG l.prog w (K w.params) mg base (ct w) k fa fd [x] (sp w))
    (wish : ∀ (w : World) (H : Hp) (a : Addr) (ns : List Int), ns.length ≤ n → (∀ z ∈ ns, Builtin.Int.intBits z ≤ 1048576) → Only H → SqL (K w.params) H a (ns.map V.int) → sp w [.ref a] H (fun v _ => v = .bl true) fun _ _ _ => False)
    (noX : ∀ (w : World) (H : Hp) (s : Shared) (e : Value) (t : Shared), ct w [] H s (fun _ _ _ => False) e t → False) : PySem.W.WalkO q loose XP YP l.row.toRowW d [] (fun f vs => PySem.call f vs) := by
  refine Att.attach_callB hn hdf fun w s0 s1 mg mb fa o pm cd doc a vs ns G Y ho hd hcd hmg ob intz cnt bits ge => ?_
  obtain ⟨fd, bnd, hF⟩ := F w mg fa _ (hY w _ Y) G.T.g hmg
  exact endG (hY w _ Y) G.T.g G.T.b G.T.builtins G.T.nolimit ge ob intz (Nat.le_trans cnt le) room hF bnd (fun H e t => noX w H s1 e t) fun H on h => wish w H a ns cnt bits on h
/-! ## products of numbers of up to a hundred million bits -/
def CMulB (i j : Int) : Prop := i.natAbs.log2 + j.natAbs.log2 < 100000000
theorem CMulB.ok {i j : Int} (h : CMulB i j) : IntMulOk i j := by
  have b : ∀ x : Int, Builtin.Int.intBits x ≤ x.natAbs.log2 + 1 := fun x => by
    unfold Builtin.Int.intBits
    split <;> omega
  have h1 := b i
  have h2 := b j
  have h3 : i.natAbs.log2 + j.natAbs.log2 < 100000000 := h
  have e : bitsLine = 134217728 := by decide
  unfold IntMulOk
  intro z
  rw [Bool.and_eq_true] at z
  have z2 := z.2
  unfold Builtin.Int.intTooBig at z2
  have z3 := of_decide_eq_true z2
  rw [e] at z3
  omega
theorem op_mulB {X : Cx} : OpR X (binaryOp .Mult) (rI CMulB fun i j => .int (i * j)) := opI fun _ _ _ _ _ _ _ hc q => mul_int q hc.ok
theorem xo_mulB {X : Cy} : YOp X (binaryOp .Mult) (pII CMulB fun i j => .int (i * j)) := ⟨_, op_mulB, simR_I (fun _ _ _ _ => .int _) fun _ _ h => h⟩
theorem mulB_of {i j : Int} (h : CMulW i j) : CMulB i j := Nat.lt_trans h (by decide)
theorem log2_le {i j : Int} (h : i.natAbs ≤ j.natAbs) : i.natAbs.log2 ≤ j.natAbs.log2 := by
  by_cases h0 : i.natAbs = 0
  · rw [h0]; exact Nat.zero_le _
  · have e := Nat.log2_self_le h0
    exact (Nat.le_log2 (by omega)).mpr (Nat.le_trans e h)
end Kt

set_option Elab.async false
set_option linter.all false
set_option maxRecDepth 100000
set_option maxHeartbeats 2000000
namespace Kt
open PySem PySem.Spec PyProof.Rows L2

/-! ## while -/
def pWhile (t : Pt) (pb : Ps) : Ps := fun D ρ M => ∃ W : Nat → Rho → Mem → Prop, (∃ m, W m ρ M) ∧ ∀ m ρ M, W m ρ M →
  t ρ M fun b M1 => (b = true → pb { nx := fun ρ' M' => ∃ m', m' < m ∧ W m' ρ' M', rt := D.rt, bk := D.nx, ct := fun ρ' M' => ∃ m', m' < m ∧ W m' ρ' M' } ρ M1) ∧ (b = false → D.nx ρ M1)
theorem simS_while {Z : Wi} {tc : TT} {pt : Pt} {tb : TS} {pb : Ps} (h1 : SimT Z tc pt) (h2 : SimS Z tb pb) : SimS Z (tWhile tc tb) (pWhile pt pb) := fun D ρ M h B as σ H D' S L W0 e => by
  obtain ⟨W, ⟨m0, w0⟩, turn⟩ := h
  refine ⟨fun n σ' H' => ∃ ρ' M' B' as', W n ρ' M' ∧ Gr B as H B' as' H' ∧ Sat Z.K M' B' as' H' ∧ Slots Z.K B' as' ρ' σ', ⟨m0, ρ, M, B, as, w0, S.gr, S, L⟩, ?_⟩
  rintro m σ1 H1 ⟨ρ1, M1, B1, as1, w1, g1, S1, L1⟩
  refine h1 ρ1 M1 _ (turn m ρ1 M1 w1) B1 as1 σ1 H1 _ S1 L1 (W0.on g1) fun b M2 B2 as2 H2 hb g2 S2 => ?_
  have gg := g1.trans g2
  cases b with
  | true =>
    rw [if_pos rfl]
    refine ⟨fun σ' H' => ∃ m', m' < m ∧ ∃ ρ' M' B' as', W m' ρ' M' ∧ Gr B as H B' as' H' ∧ Sat Z.K M' B' as' H' ∧ Slots Z.K B' as' ρ' σ', fun σ' H' q => q, ?_⟩
    refine h2 _ ρ1 M2 (hb.1 rfl) B2 as2 σ1 H2 _ S2 (L1.mono g2) (W0.on gg) ⟨?_, ?_, ?_, ?_⟩
    · rintro ρ5 M5 B5 as5 σ5 H5 ⟨m', hm, w5⟩ g5 S5 L5
      exact ⟨m', hm, ρ5, M5, B5, as5, w5, gg.trans g5, S5, L5⟩
    · exact fun c M5 B5 as5 v5 H5 h5 g5 S5 o5 => e.rt c M5 B5 as5 v5 H5 h5 (gg.trans g5) S5 o5
    · exact fun ρ5 M5 B5 as5 σ5 H5 h5 g5 S5 L5 => e.nx ρ5 M5 B5 as5 σ5 H5 h5 (gg.trans g5) S5 L5
    · rintro ρ5 M5 B5 as5 σ5 H5 ⟨m', hm, w5⟩ g5 S5 L5
      exact ⟨m', hm, ρ5, M5, B5, as5, w5, gg.trans g5, S5, L5⟩
  | false =>
    rw [if_neg (by decide)]
    exact e.nx ρ1 M2 B2 as2 σ1 H2 (hb.2 rfl) gg S2 (L1.mono g2)
theorem y_while {X : Cy} {c : Expr} {body : List Stmt} {pt : Pt} {pb : Ps} {pos : Pos} (hp : PassesOwn (model X.prog X.w) X.A X.env X.xe) (hc : YT X c pt) (hb : YSs X body pb) : YS X (.While c body [] pos) (pWhile pt pb) := by
  obtain ⟨tt, c1, c2⟩ := hc
  obtain ⟨tb, b1, b2⟩ := hb
  exact ⟨_, ps_while hp c1 b1, simS_while c2 b2⟩
theorem w_while {t : Pt} {pb : Ps} {D : En} {ρ : Rho} {M : Mem} (W : Nat → Rho → Mem → Prop) (h0 : ∃ m, W m ρ M) (h : ∀ m ρ M, W m ρ M → t ρ M fun b M1 => (b = true → pb { nx := fun ρ' M' => ∃ m', m' < m ∧ W m' ρ' M', rt := D.rt, bk := D.nx, ct := fun ρ' M' => ∃ m', m' < m ∧ W m' ρ' M' } ρ M1) ∧ (b = false → D.nx ρ M1)) : pWhile t pb D ρ M := ⟨W, h0, h⟩
/-! ## name += e, of numbers -/
def pAugI (i : Nat) (pe : Px) (f : Int → Int → Int) : Ps := fun D ρ M => match ρ[i]? with
  | some (some (.d (.int a))) => pe ρ M fun c M1 => match c with
    | .d (.int b) => D.nx (ρ.set i (some (.d (.int (f a b))))) M1
    | _ => False
  | _ => False
theorem simS_augI {Z : Wi} {i : Nat} {te : TE} {pe : Px} {f : Int → Int → Int} (h1 : Sim Z te pe) : SimS Z (tAug i te (ipI f)) (pAugI i pe f) := fun D ρ M h B as σ H D' S L W0 e => by
  unfold pAugI at h
  split at h
  · rename_i a ea
    obtain ⟨v, hv, ok⟩ := L.at_ i _ ea
    have ev : v = .int a := by cases ok; rfl
    subst ev
    refine ⟨.int a, hv, h1 ρ M _ h B as σ H _ S L W0 fun c M1 v1 B1 as1 H1 hh g1 S1 o1 => ?_⟩
    split at hh
    · rename_i b
      have ev1 : v1 = .int b := by cases o1; rfl
      subst ev1
      exact ⟨a, b, rfl, rfl, e.nx _ M1 B1 as1 _ H1 hh g1 S1 ((L.mono g1).set (c := .d (.int (f a b))) (.int _))⟩
    · cases hh
  · cases h
theorem y_augA {X : Cy} {i : Nat} {x : Str} {e : Expr} {pe : Px} {pos pos' : Pos} (hN : X.N.Nodup) (hi : X.N[i]? = some x) (hx : Loc X.env.scope x) (he : YE X e pe) (hf : X.fn x = true ∨ X.env.scope.names.lookup x = some .local := by first | exact .inl rfl | exact .inr rfl | assumption) :
    YS X (.AugAssign (.Name x pos') .Add e pos) (pAugI i pe fun a b => a + b) := let ⟨_, a1, a2⟩ := he; ⟨_, ps_aug hN hi hx a1 ip_add hf, simS_augI a2⟩
theorem y_augS {X : Cy} {i : Nat} {x : Str} {e : Expr} {pe : Px} {pos pos' : Pos} (hN : X.N.Nodup) (hi : X.N[i]? = some x) (hx : Loc X.env.scope x) (he : YE X e pe) (hf : X.fn x = true ∨ X.env.scope.names.lookup x = some .local := by first | exact .inl rfl | exact .inr rfl | assumption) :
    YS X (.AugAssign (.Name x pos') .Sub e pos) (pAugI i pe fun a b => a - b) := let ⟨_, a1, a2⟩ := he; ⟨_, ps_aug hN hi hx a1 ip_sub hf, simS_augI a2⟩
theorem w_augI {i : Nat} {pe : Px} {f : Int → Int → Int} {D : En} {ρ : Rho} {M : Mem} {a : Int} (e : ρ[i]? = some (some (.d (.int a)))) (h : pe ρ M fun c M1 => match c with
    | .d (.int b) => D.nx (ρ.set i (some (.d (.int (f a b))))) M1
    | _ => False) : pAugI i pe f D ρ M := by
  unfold pAugI
  rw [e]
  exact h
/-! ## list(range(a, b)) -/
def pLRg (pa pb : Px) : Px := fun ρ M Q => pa ρ M fun x M1 => pb ρ M1 fun y M2 => match x, y with
  | .d (.int i), .d (.int j) => RgOk i j ∧ Q (.r M2.length) (M2 ++ [.live (intsFrom i (j - i).toNat)])
  | _, _ => False
theorem rp_map_ints {K : PySem.W.Frag} {B : Hp} (f : Nat → Int) : ∀ l : List Nat, RpAll K B (l.map fun k => V.int (f k)) (l.map fun k => PyData.int (f k))
  | [] => .nil
  | k :: r => .cons (.int (f k)) (rp_map_ints f r)
theorem y_lrg {X : Cy} {a b : Expr} {pa pb : Px} {p p0 pos0 pos : Pos} (hc : X.calm = true) (hg : Gl X "range") (hm : X.mg "range" = none) (hgl : Gl X "list") (hml : X.mg "list" = none) (ha : YE X a pa) (hb : YE X b pb)
    (n1 : starEach [a, b] X.env = (false, eval a X.env) :: starEach [b] X.env := by rfl) (n2 : starEach [b] X.env = (false, eval b X.env) :: starEach [] X.env := by rfl) (hp : (backTo pos0 (starEach [b] X.env)).any (·.1) = false := by rfl)
    (n3 : starEach [.Call (.Name "range" p0) [a, b] [] pos0] X.env = (false, eval (.Call (.Name "range" p0) [a, b] [] pos0) X.env) :: starEach [] X.env := by rfl) :
    YE X (.Call (.Name "list" p) [.Call (.Name "range" p0) [a, b] [] pos0] [] pos) (pLRg pa pb) := by
  obtain ⟨ta, a1, a2⟩ := ha
  obtain ⟨tb, b1, b2⟩ := hb
  refine ⟨_, pe_listRg hc hgl hml (prg_2 hg hm a1 b1 n1 n2 hp) n3, fun ρ M Qh h B as σ H Q S L W0 q => ?_⟩
  refine a2 ρ M _ h B as σ H _ S L W0 fun c M1 v B1 as1 H1 h1 g1 S1 o1 => ?_
  refine b2 ρ M1 _ h1 B1 as1 σ H1 _ S1 (L.mono g1) (W0.on g1) fun c2 M2 v2 B2 as2 H2 h2 g2 S2 o2 => ?_
  split at h2
  · rename_i i j
    have e1 : v = .int i := by cases o1; rfl
    have e2 : v2 = .int j := by cases o2; rfl
    refine ⟨i, j, e1, e2, h2.1, fun p np => ?_⟩
    obtain ⟨S', g', e'⟩ := S2.newL np (rp_map_ints (K := X.K) (B := B2) (fun k => i + (k : Int)) (List.range (j - i).toNat))
    exact q _ _ _ _ _ _ h2.2 ((g1.trans g2).trans g') S' ⟨p, e', rfl⟩
  · cases h2
theorem w_lrg {pa pb : Px} {ρ : Rho} {M : Mem} {Q : Qx} (h : pa ρ M fun x M1 => pb ρ M1 fun y M2 => match x, y with
  | .d (.int i), .d (.int j) => RgOk i j ∧ Q (.r M2.length) (M2 ++ [.live (intsFrom i (j - i).toNat)])
  | _, _ => False) : pLRg pa pb ρ M Q := h
end Kt

set_option Elab.async false
set_option linter.all false
set_option maxRecDepth 100000
set_option maxHeartbeats 2000000
namespace Kt
open PySem PySem.Spec PyProof.Rows L2

/-! ## dicts that are data -/
def decKey : PyData → Int → Bool
  | .int i, k => decide (i = k)
  | _, _ => false
def dGet : List (PyData × PyData) → Int → Option PyData
  | [], _ => none
  | (kd, d) :: r, k => if decKey kd k = true then some d else dGet r k
theorem rpkv_get {K : PySem.W.Frag} {H : Hp} : ∀ {kvs : List (Key × V)} {ps : List (PyData × PyData)}, RpKv K H kvs ps → ∀ k : Int, (valV kvs (Sum.inl k : Key) = none ∧ dGet ps k = none) ∨ ∃ v d, valV kvs (Sum.inl k : Key) = some v ∧ dGet ps k = some d ∧ Rp K H v d
  | _, _, .nil, k => .inl ⟨rfl, rfl⟩
  | _, _, .cons (k := k0) (v := v) (d := d) h r, k => by
    have ih := rpkv_get r k
    cases k0 with
    | inl i =>
      by_cases e : i = k
      · subst e
        exact .inr ⟨v, d, valV_pos rfl, if_pos (decide_eq_true rfl), h⟩
      · rw [valV_neg (by intro z; cases z; exact e rfl), show dGet ((keyD (Sum.inl i), d) :: _) k = dGet _ k from if_neg (by show ¬ decide (i = k) = true; rw [decide_eq_false e]; exact nofun)]
        exact ih
    | inr x =>
      rw [valV_neg (by intro z; cases z), show dGet ((keyD (Sum.inr x), d) :: _) k = dGet _ k from if_neg (by show ¬ (false : Bool) = true; exact nofun)]
      exact ih
def pGet2 (pd py pz : Px) : Px := fun ρ M Q => pd ρ M fun c M1 => match c with
  | .d (.dict ps) => py ρ M1 fun y M2 => (match y with
    | .d (.int k) => pz ρ M2 fun z M3 => (match dGet ps k with
      | some d => Q (.d d) M3
      | none => Q z M3)
    | _ => False)
  | _ => False
theorem y_get2 {X : Cy} {k : Nat} {o e f : Expr} {apos cpos : Pos} {pd py pz : Px} (hr : Room k X.A) (ho : YE X o pd) (he : YE X e py) (hf : YE X f pz) (m : M2 X o "get" apos e f cpos) : YE X (.Call (.Attribute o "get" apos) [e, f] [] cpos) (pGet2 pd py pz) := by
  obtain ⟨td, d1, d2⟩ := ho
  obtain ⟨ty, e1, e2⟩ := he
  obtain ⟨tz, f1, f2⟩ := hf
  refine ⟨_, pe_dget2 (by have := hr.units; omega) d1 e1 f1 m, fun ρ M Qh h B as σ H Q S L W0 q => ?_⟩
  refine d2 ρ M _ h B as σ H _ S L W0 fun c M1 v B1 as1 H1 h1 g1 S1 o1 => ?_
  split at h1
  · rename_i ps
    cases o1 with
    | @dct a kvs _ hb rk =>
    refine ⟨a, rfl, .inl ⟨kvs, .inl (S1.sub _ _ hb)⟩, ?_⟩
    refine e2 ρ M1 _ h1 B1 as1 σ H1 _ S1 (L.mono g1) (W0.on g1) fun c2 M2 v2 B2 as2 H2 h2 g2 S2 o2 => ?_
    split at h2
    · rename_i i
      have ev : v2 = .int i := by cases o2; rfl
      subst ev
      refine f2 ρ M2 _ h2 B2 as2 σ H2 _ S2 ((L.mono g1).mono g2) (W0.on (g1.trans g2)) fun c3 M3 v3 B3 as3 H3 h3 g3 S3 o3 => ?_
      have gg := (g1.trans g2).trans g3
      have hb3 : B3 a = some (.dK kvs) := g3.b _ _ (g2.b _ _ hb)
      have rk3 := (rk.mono g2.b).mono g3.b
      refine ⟨_, DGet.k (k := (Sum.inl i : Key)) (S3.sub _ _ hb3), ?_⟩
      rcases rpkv_get rk3 i with ⟨a1, a2⟩ | ⟨v, d, a1, a2, a3⟩
      · rw [a2] at h3
        rw [a1]
        exact q _ _ _ _ _ _ h3 gg S3 o3
      · rw [a2] at h3
        rw [a1]
        exact q _ _ _ _ _ _ h3 gg S3 a3
    · cases h2
  · cases h1
/-! ## dict(pairs) -/
def rDictP : Pr := fun cs M Q => match cs with
  | [c] => ∃ l : List (Int × PyData), deref c M = some (.list (l.map fun p => .tuple [.int p.1, p.2])) ∧ (l.map (·.1)).Nodup ∧ Q (.d (.dict (l.map fun p => (.int p.1, p.2)))) M
  | _ => False
theorem pairs_split {K : PySem.W.Frag} {B : Hp} : ∀ {l : List (Int × PyData)} {ws : List V}, RpAll K B ws (l.map fun p => PyData.tuple [.int p.1, p.2]) → ∃ (ps : List Addr) (kvs : List (Key × V)), ws = ps.map V.ref ∧ Paired (fun p kv => SqT K B p [kV kv.1, kv.2]) ps kvs ∧
    RpKv K B kvs (l.map fun p => (PyData.int p.1, p.2)) ∧ kvs.map (·.1) = l.map fun p => (Sum.inl p.1 : Key)
  | [], _, .nil => ⟨[], [], rfl, .nil, .nil, rfl⟩
  | (i, d) :: l, _, .cons h r => by
    obtain ⟨ps, kvs, e1, e2, e3, e4⟩ := pairs_split r
    cases h with
    | @tup a vs _ hs rv =>
    obtain _ | ⟨r1, _ | ⟨r2, _ | _⟩⟩ := rv
    rename_i v1 v2
    have ev : v1 = .int i := by cases r1; rfl
    subst ev
    exact ⟨a :: ps, (Sum.inl i, v2) :: kvs, by rw [e1]; rfl, .cons hs e2, .cons (k := Sum.inl i) r2 e3, by rw [List.map_cons, e4]; rfl⟩
theorem merge_nodup : ∀ (more acc : List (Key × V)), ((acc ++ more).map (·.1)).Nodup → mergeK acc more = acc ++ more
  | [], acc, _ => (List.append_nil acc).symm
  | p :: r, acc, h => by
    have hn : (acc.any fun kv => decide (kv.1 = p.1)) = false := by
      rw [List.any_eq_false]
      intro kv hkv
      rw [decide_eq_true_eq]
      intro e
      rw [List.map_append, List.nodup_append] at h
      exact h.2.2 kv.1 (List.mem_map_of_mem hkv) p.1 (by rw [List.map_cons]; exact List.mem_cons_self) e
    show mergeK (putK acc p.1 p.2) r = _
    have hp : putK acc p.1 p.2 = acc ++ [p] := by
      unfold putK
      rw [hn, if_neg (by decide)]
    rw [hp, merge_nodup r (acc ++ [p]) (by rw [List.append_assoc]; exact h), List.append_assoc]
    rfl
theorem paired_imp {α β : Type} {R R' : α → β → Prop} (h : ∀ a b, R a b → R' a b) : ∀ {l : List α} {m : List β}, Paired R l m → Paired R' l m
  | _, _, .nil => .nil
  | _, _, .cons a r => .cons (h _ _ a) (paired_imp h r)
theorem xc_dictP {X : Cy} (hc : X.calm = true) : YCl X (.type "dict") rDictP := by
  refine ⟨_, call_dictP hc, fun cs M Qh h B as vs H Q S o q => ?_⟩
  unfold rDictP at h
  split at h
  · rename_i c
    obtain _ | ⟨o1, _ | _⟩ := o
    obtain ⟨l, e, nd, hq⟩ := h
    obtain ⟨a, ws, rfl, hl, r⟩ := deref_list S o1 e
    obtain ⟨ps, kvs, rfl, e2, e3, e4⟩ := pairs_split r
    refine ⟨a, ps, kvs, rfl, .inl (.inl hl), paired_imp (fun _ _ z => sqT_mono S.sub z) e2, fun p np => ?_⟩
    have hm : mergeK [] kvs = kvs := merge_nodup kvs [] (by
      rw [List.nil_append, e4, show (l.map fun p => (Sum.inl p.1 : Key)) = (l.map (·.1)).map Sum.inl from by rw [List.map_map]; rfl]
      exact List.Pairwise.map _ (fun x y hxy z => hxy (Sum.inl.inj z)) nd)
    rw [hm]
    obtain ⟨S', g'⟩ := S.new (o := .dK kvs) np
    exact q _ _ _ _ _ _ hq g' S' (.dct upd_same (e3.mono g'.b))
  · cases h
theorem w_get2 {pd py pz : Px} {ρ : Rho} {M : Mem} {Q : Qx} (h : pd ρ M fun c M1 => match c with
  | .d (.dict ps) => py ρ M1 fun y M2 => (match y with
    | .d (.int k) => pz ρ M2 fun z M3 => (match dGet ps k with
      | some d => Q (.d d) M3
      | none => Q z M3)
    | _ => False)
  | _ => False) : pGet2 pd py pz ρ M Q := h
/-! ## slices of tuples -/
def pSlT (p : Px) (l u : Po) : Px := fun ρ M Q => p ρ M fun c M1 => l ρ M1 fun lo M2 => u ρ M2 fun hi M3 => match c with
  | .d (.tuple xs) => Q (.d (.tuple (cutD xs lo hi))) M3
  | _ => False
theorem xslT {X : Cy} {e : Expr} {lo hi : Option Expr} {p : Px} {pl pu : Po} {pos p2 : Pos} (h : YE X e p) (hl : YO X lo pl) (hu : YO X hi pu) : YE X (.Subscript e (.Slice lo hi none p2) pos) (pSlT p pl pu) := by
  obtain ⟨t, h1, h2⟩ := h
  obtain ⟨tl, l1, l2⟩ := hl
  obtain ⟨tu, u1, u2⟩ := hu
  refine ⟨_, pe_slice sl_tupA h1 l1 u1, fun ρ M Qh h B as σ H Q S L W0 q => h2 ρ M _ h B as σ H _ S L W0 fun c M1 v B1 as1 H1 h1 g1 S1 o1 => l2 ρ M1 _ h1 B1 as1 σ H1 _ S1 (L.mono g1) (W0.on g1) fun a M2 B2 as2 H2 h2 g2 S2 =>
    u2 ρ M2 _ h2 B2 as2 σ H2 _ S2 (L.mono (g1.trans g2)) (W0.on (g1.trans g2)) fun b M3 B3 as3 H3 h3 g3 S3 => ?_⟩
  split at h3
  · rename_i xs
    have o3 : Rp X.K B3 v (.tuple xs) := Rp.mono g3.b (Rp.mono g2.b o1)
    cases o3 with
    | @tup ad ws _ hs r =>
    have gg := (g1.trans g2).trans g3
    have rc : RpAll X.K B3 (cutV ws a b) (cutD xs a b) := by
      unfold cutV cutD
      rw [r.len]
      exact (r.drop _).take _
    refine ⟨ad, ws, rfl, sqT_mono S3.sub hs, fun hw => ?_, fun _ x nx => ?_⟩
    · have e : cutD xs a b = xs := by
        unfold cutD
        rw [← r.len, hw.1, hw.2, List.drop_zero, Nat.sub_zero, r.len]
        exact List.take_length
      rw [e] at h3
      exact q _ _ _ _ _ _ h3 gg S3 (.tup hs r)
    · obtain ⟨S4, g4⟩ := S3.new (o := .tup (cutV ws a b)) nx
      exact q _ _ _ _ _ _ h3 (gg.trans g4) S4 (.tup (.inl (.inl upd_same)) (rc.mono g4.b))
  · cases h3
theorem w_slT {pe : Px} {pl pu : Po} {ρ : Rho} {M : Mem} {Q : Qx} (h : pe ρ M fun c M1 => pl ρ M1 fun lo M2 => pu ρ M2 fun hi M3 => match c with
  | .d (.tuple xs) => Q (.d (.tuple (cutD xs lo hi))) M3
  | _ => False) : pSlT pe pl pu ρ M Q := h
end Kt

set_option Elab.async false
set_option linter.all false
set_option maxRecDepth 100000
set_option maxHeartbeats 2000000
namespace Kt
open PySem PySem.Spec PyProof.Rows L2
/-! ## repr of a display whose lists stay one's own -/
def derefs : List Cell → Mem → Option (List PyData)
  | [], _ => some []
  | c :: cs, M => match deref c M, derefs cs M with
    | some x, some xs => some (x :: xs)
    | _, _ => none
def reQ (Q : Qx) (cs : List Cell) (M : Mem) : Prop := match derefs cs M with
  | some xs => (xs.length ≤ sizeLine ∧ reprOk (.list xs)) ∧ Q (.d (.str (PyData.list xs).shown)) M
  | none => False
def pReprL (pa : Pa) : Px := fun ρ M Q => pa ρ M fun cs M1 => reQ Q cs M1
theorem derefs_ok {K : PySem.W.Frag} {M : Mem} {B H : Hp} {as : List Addr} (S : Sat K M B as H) : ∀ {cs : List Cell} {vs : List V} {xs : List PyData}, CellsOk K B as vs cs → derefs cs M = some xs → RpAll K H vs xs
  | [], _, xs, .nil, e => by
    cases e
    exact .nil
  | c :: cs, _, xs, .cons h r, e => by
    unfold derefs at e
    split at e
    · rename_i x ys e1 e2
      cases e
      exact .cons (deref_ok S h e1) (derefs_ok S r e2)
    · cases e
theorem y_reprL {X : Cy} {k : Nat} {es : List Expr} {pa : Pa} {p pos lpos : Pos} (room : Room k X.A) (hgu : X.A.guards = some []) (hg : Gl X "repr") (hm : X.mg "repr" = none) (ha : YA X es pa)
    (he : starEach [.List es lpos] X.env = (false, eval (.List es lpos) X.env) :: starEach [] X.env := by rfl) (hpl : (backTo pos (starEach [] X.env)).any (·.1) = false := by rfl) : YE X (.Call (.Name "repr" p) [.List es lpos] [] pos) (pReprL pa) := by
  obtain ⟨ta, a1, a2⟩ := ha
  refine ⟨_, pe_callB (call_reprR room hgu) hg hm (by decide +kernel) (pa_cons (pe_lst a1) pa_nil he) (by decide) (by decide) he hpl, fun ρ M Qh h B as σ H Q S L W0 q => ?_⟩
  refine a2 ρ M _ h B as σ H _ S L W0 fun cs M1 vs B1 as1 H1 h1 g1 S1 o1 => ?_
  unfold reQ at h1
  split at h1
  · rename_i xs e
    have r := derefs_ok S1 o1 e
    refine ⟨by rw [r.len]; exact h1.1.1, fun a na => ?_⟩
    have pa' : a ∉ as1 := fun h => S1.free a h na
    have hB : B1 a = none := by
      cases q : B1 a with
      | none => rfl
      | some u =>
        have := S1.sub a u q
        rw [na] at this
        cases this
    have sm : Same H1 (upd H1 a (.lst vs)) := fun b o e => by
      rw [upd_ne (ne_of_none e na)]
      exact e
    exact ⟨_, _, rfl, .lst upd_same (r.mono sm), h1.1.2, q _ M1 _ B1 as1 _ h1.2 (g1.trans (S1.gr.beside na pa')) (S1.beside pa' hB) (.str _)⟩
  · cases h1
theorem w_reprL {pa : Pa} {ρ : Rho} {M : Mem} {Q : Qx} (h : pa ρ M fun cs M1 => reQ Q cs M1) : pReprL pa ρ M Q := h
theorem w_reQ {cs : List Cell} {M : Mem} {Q : Qx} {xs : List PyData} (e : derefs cs M = some xs) (hl : xs.length ≤ sizeLine) (hr : reprOk (.list xs)) (h : Q (.d (.str (PyData.list xs).shown)) M) : reQ Q cs M := by
  unfold reQ
  rw [e]
  exact ⟨⟨hl, hr⟩, h⟩
theorem derefs_2 {c d : Cell} {M : Mem} {x y : PyData} (h1 : deref c M = some x) (h2 : deref d M = some y) : derefs [c, d] M = some [x, y] := by
  unfold derefs derefs derefs
  rw [h1, h2]
end Kt

set_option Elab.async false
set_option linter.all false
set_option maxRecDepth 100000
set_option maxHeartbeats 2000000
namespace Kt
open PySem PySem.Spec PyProof.Rows L2
/-! ## raise X(e): X an own class over ValueError without __init__ -/
structure ErrS (K : PySem.W.Frag) (mg : Str → Option Value) (x : Str) (C : Addr) (bm : List Value) : Prop where
  gC : mg x = some (.ref C)
  kC : PySem.W.keepIn K (.ref C) = true
  xC : PySem.W.excIn K C bm "ValueError.__new__" = true
  bC : PySem.W.subIn K (.ref C) (.type "BaseException") = some true
  tC : PySem.W.typeIn K (.ref C) = some (.type "type")
def pRaise (C : Addr) (f : PyData → Option (Option (Str × PyData))) (Wh : Xc → Rho → Mem → Prop) (pe : Px) : Ps := fun _ ρ M => pe ρ M fun c M1 => match c with
  | .d y => (match f y with
    | some g => Wh ⟨C, g⟩ ρ M1
    | none => False)
  | _ => False
theorem y_raiseS {X : Cy} {x : Str} {C : Addr} {bm : List Value} {e : Expr} {pe : Px} {p pos rpos : Pos} {B initId : String} (F : ExcBaseFacts B "ValueError.__new__" initId bm) (E : ErrS X.K X.mg x C bm) (hc : X.calm = true) (tk : Takes X.toCx X.W) (hg : Gl X x) (he : YE X e pe)
    (hs : starEach [e] X.env = (false, eval e X.env) :: starEach [] X.env := by rfl) (hdb : (x == ("__debug__" : Str)) = false := by decide) : YS X (.Raise (some (.Call (.Name x p) [e] [] pos)) none rpos) (pRaise C (fun _ => some none) X.Wh pe) := by
  obtain ⟨te, h1, h2⟩ := he
  refine ⟨_, ps_raise hc tk (SkE.pmk_own1 F E.xC E.gC E.kC (raises_own E.bC E.tC) hg h1 hs hdb), fun D ρ M h B as σ H D' S L W0 _ => ?_⟩
  refine h2 ρ M _ h B as σ H _ S L W0 fun c M1 v B1 as1 H1 hh g1 S1 o1 => ?_
  split at hh
  · exact W0.ex ⟨C, none⟩ ρ M1 B1 as1 σ H1 none hh g1 S1 (L.mono g1) rfl
  · cases hh
/-! ## f'{x}' of an int or None -/
def tFmtN (te : TE) : TE := fun σ H Q => te σ H fun x H1 => (x = .non ∧ Q (.str "None") H1) ∨ ∃ i : Int, x = .int i ∧ i.natAbs.log2 < 1920 ∧ Q (.str (toString i)) H1
theorem pe_fmtN {X : Cx} {e : Expr} {te : TE} {pos : Pos} (he : PE X e te) : PE X (.FormattedValue e (-1) none pos) (tFmtN te) := by
  refine ⟨fun pins s σ H Q I h => ?_⟩
  refine wpAny_FormattedValue_plain (thn (he.run pins s σ H _ I h) fun v s1 hv => ?_)
  obtain ⟨x, H1, I1, r1, q⟩ := hv
  rcases q with ⟨rfl, q⟩ | ⟨i, rfl, hz, q⟩
  · cases r1
    exact wpAny_formatField_none ⟨.str "None", H1, I1.tok _, ⟨_, rfl⟩, q⟩
  · obtain ⟨t, rfl⟩ := r1
    exact wpAny_formatField_int hz ⟨.str (toString i), H1, I1.tok _, ⟨_, rfl⟩, q⟩
/-! ## W.__init__(self, ..), W an own class over ValueError without __init__ -/
theorem pe_owninit {X : Cx} {x : Str} {W : Addr} {mc : Value} {e : Expr} {es : List Expr} {ta : TA} {p1 p2 pos : Pos} {pl : Sem Bool} (hg : Gl X x) (hm : X.mg x = some (.ref W)) (hs : PySem.W.specialIn X.K (.ref W) "__getattribute__" = some (some (.builtin "type.__getattribute__"))) (hr : PySem.W.readsIn X.K W mc = true)
    (tm : PySem.W.typeIn X.K (.ref W) = some mc) (vV : PySem.W.findCls X.K (.ref W) mc "__init__" = some (.val (.builtin "ValueError.__init__"))) (ha : PA X (e :: es) ta)
    (hc : eval (.Call (.Attribute (.Name x p1) "__init__" p2) (e :: es) [] pos) X.env = (do
      let ov ← eval (.Name x p1) X.env
      standAt p2.atName
      let (f, first) ← holding [ov] (getMethod ov "__init__" pl)
      callWith pos f first (backTo pos (starEach (e :: es) X.env)) (backToKw pos (keywordEach [] X.env))) := by rfl)
    (he : starEach (e :: es) X.env = (false, eval e X.env) :: starEach es X.env := by rfl) (hpl : (backTo pos (starEach es X.env)).any (·.1) = false := by rfl) (hdb : (x == ("__debug__" : Str)) = false := by decide) :
    PE X (.Call (.Attribute (.Name x p1) "__init__" p2) (e :: es) [] pos) (tVeI X.K ta) := by
  refine ⟨fun pins s σ H Q I h => ?_⟩
  refine PySem.W.methodCall_KW (ld_glob I hg hm ?_ hdb) hc
  obtain ⟨m, fr⟩ := I.fr
  refine PySem.W.method_of_cls fr I.ok.mod.kin hs (PySem.W.cls_val fr I.ok.mod.kin tm hr vV (by decide +kernel) ?_)
  show wpAny _ _ (callWith pos (Value.builtin "ValueError.__init__") [] (backTo pos (starEach (e :: es) X.env)) []) _ _ _
  refine PyProof.Rows.callWith_method1 (thn (ha.run pos pins _ σ H _ (I.tok _) h) fun us s1 ⟨vs, H1, I1, r1, a, C, ws, ev, hl, T, ea, q⟩ => ?_) he hpl
  subst ev
  cases r1 with
  | @cons _ u0 _ ur ra rw' =>
    obtain rfl : u0 = Value.ref a := ra
    have hlen : ur.length ≤ sizeLine := by
      rw [← Paired.length rw', sizeLine_eq]
      omega
    exact oinit_ok T I1 ea hlen fun s' J => ⟨.non, H1, J, rfl, q⟩
/-! ## what such an __init__ keeps -/
def spI (y : Str) (C : Addr) : Sp := fun vs H Q E => ∃ (a : Addr) (v : V), vs = [.ref a, v] ∧ H a = some (exo a C none) ∧ (v = .non ∨ ∃ i : Int, v = .int i ∧ i.natAbs.log2 < 1920) ∧ ∀ dx, H dx = none → dx ≠ a → Q .non (upd (upd H dx (exd dx [(y, v)])) a (exo a C (some dx)))
theorem pure_init {K : PySem.W.Frag} {C : Addr} {m y : Str} (T : OexC K C) (hno : PySem.W.findIn K (.ref C) y = some none) (hm : m.length ≤ 1000) {vs : List V} {H : Hp} {Q : VK} {E : XK} (h : spI y C vs H Q E) :
    (tSeq (tDrop (tVeI K (tCons (tVar 0) (tCons (fun σ H Q => tJs [tC (.str m), tFmtN (tVar 1)] Str.empty σ H fun out H1 => Q (.str out) H1) tNil)))) (tOst K y (tVar 0) (tVar 1))) { nx := fun _ H' => Q .non H', rt := Q } (L2.start ["self", y] vs) H := by
  obtain ⟨a, v, rfl, ha, hv, q⟩ := h
  have ht : (tOst K y (tVar 0) (tVar 1)) { nx := fun _ H' => Q .non H', rt := Q } (L2.start ["self", y] [.ref a, v]) H := ⟨v, rfl, .ref a, rfl, a, C, rfl, T, hno, .inl ⟨ha, fun dx n ne => q dx n ne⟩⟩
  have fin : ∀ out : Str, ∃ (b D : Addr) (ws : List V), [V.ref a, V.str out] = V.ref b :: ws ∧ ws.length ≤ 1000 ∧ OexC K D ∧ H b = some (exo b D none) ∧ (tOst K y (tVar 0) (tVar 1)) { nx := fun _ H' => Q .non H', rt := Q } (L2.start ["self", y] [.ref a, v]) H :=
    fun out => ⟨a, C, [.str out], rfl, show 1 ≤ 1000 from by decide, T, ha, ht⟩
  refine ⟨.ref a, rfl, ?_⟩
  have e0 : (Str.empty ++ m).length = m.length := by rw [Str.empty_append]
  refine ⟨m, rfl, by rw [e0, sizeLine_eq]; omega, ?_⟩
  refine ⟨v, rfl, ?_⟩
  rcases hv with rfl | ⟨i, rfl, hi⟩
  · refine .inl ⟨rfl, "None", rfl, ?_, fin _⟩
    rw [Str.length_append, e0, sizeLine_eq, show ("None" : Str).length = 4 from by decide]
    omega
  · refine .inr ⟨i, rfl, hi, _, rfl, ?_, fin _⟩
    have := int_text_len_1921 hi
    rw [Str.length_append, e0, sizeLine_eq]
    omega
/-! ## raise X(e): X an own class over ValueError whose __init__ keeps e under y -/
structure ErrF (P : Program) (w : World) (K : PySem.W.Frag) (mg : Str → Option Value) (base : Heap) (x y : Str) (C : Addr) (k : Nat) : Prop where
  gC : mg x = some (.ref C)
  T : OexC K C
  ini : ∃ fI fd, PySem.W.findIn K (.ref C) "__init__" = some (some (.ref fI)) ∧ PySem.W.typeIn K (.ref fI) = some (.type "function") ∧ FnOk P w K mg base CX0 k fI fd ["self", y] (spI y C) ∧ Binds K fd ["self", y] []
def raF (C : Addr) (y : Str) (Wh : Xc → Rho → Mem → Prop) (ρ : Rho) (c : Cell) (M : Mem) : Prop := match c with
  | .d .none => Wh ⟨C, some (y, .none)⟩ ρ M
  | .d (.int i) => i.natAbs.log2 < 1920 ∧ Wh ⟨C, some (y, .int i)⟩ ρ M
  | _ => False
def pRaiseF (C : Addr) (y : Str) (Wh : Xc → Rho → Mem → Prop) (pe : Px) : Ps := fun _ ρ M => pe ρ M fun c M1 => raF C y Wh ρ c M1
theorem y_raiseF {X : Cy} {x y : Str} {C : Addr} {k : Nat} {e : Expr} {pe : Px} {p pos rpos : Pos} (E : ErrF X.prog X.w X.K X.mg X.base x y C k) (hc : X.calm = true) (hr : Room (k + 1) X.A) (tk : Takes X.toCx X.W) (hx : Passes CX0 X.toCx (fun _ _ _ => False)) (hg : Gl X x) (he : YE X e pe)
    (hs : starEach [e] X.env = (false, eval e X.env) :: starEach [] X.env := by rfl) (hdb : (x == ("__debug__" : Str)) = false := by decide) (hpl : (backTo pos (starEach [] X.env)).any (·.1) = false := by rfl) : YS X (.Raise (some (.Call (.Name x p) [e] [] pos)) none rpos) (pRaiseF C y X.Wh pe) := by
  obtain ⟨te, h1, h2⟩ := he
  obtain ⟨fI, fd, i1, i2, i3, i4⟩ := E.ini
  refine ⟨_, ps_raise hc tk (pmk_oex E.T i1 i2 i3 hr i4 .nil hx hg E.gC (pa_cons h1 pa_nil hs) hdb hs hpl), fun D ρ M h B as σ H D' S L W0 _ => ?_⟩
  refine h2 ρ M _ h B as σ H _ S L W0 fun c M1 v B1 as1 H1 hh g1 S1 o1 => ?_
  have go : ∀ yd : PyData, Rp X.K B1 v yd → (v = .non ∨ ∃ i : Int, v = .int i ∧ i.natAbs.log2 < 1920) → X.Wh ⟨C, some (y, yd)⟩ ρ M1 → ([v] : List V).length ≤ 1000 ∧ ∀ a, H1 a = none → spI y C (.ref a :: ([v] ++ [])) (upd H1 a (exo a C none))
      (fun v H2 => v = .non ∧ ∃ (d : Addr) (fs : List (Str × V)), H2 a = some (exo a C (some d)) ∧ H2 d = some (exd d fs) ∧ H1 d = none ∧ X.W (.ref C) (some d) σ (upd (del H2 a) d (.xd fs))) (fun _ _ _ => False) := by
    intro yd ry hv hW
    refine ⟨show 1 ≤ 1000 from by decide, fun a na => ⟨a, v, rfl, upd_same, hv, fun dx nd ne => ?_⟩⟩
    rw [upd_ne ne] at nd
    refine ⟨rfl, dx, [(y, v)], upd_same, by rw [upd_ne ne, upd_same], nd, ?_⟩
    have eH : upd (del (upd (upd (upd H1 a (exo a C none)) dx (exd dx [(y, v)])) a (exo a C (some dx))) a) dx (.xd [(y, v)]) = upd H1 dx (.xd [(y, v)]) := by
      funext b
      by_cases hb : b = dx
      · rw [hb, upd_same, upd_same]
      · rw [upd_ne hb, upd_ne hb]
        by_cases hb2 : b = a
        · rw [hb2, del_same, na]
        · rw [del_ne hb2, upd_ne hb2, upd_ne hb, upd_ne hb2]
    rw [eH]
    have pa' : dx ∉ as1 := fun h => S1.free dx h nd
    have hB : B1 dx = none := by
      cases q : B1 dx with
      | none => rfl
      | some u =>
        have := S1.sub dx u q
        rw [nd] at this
        cases this
    exact W0.ex ⟨C, some (y, yd)⟩ ρ M1 B1 as1 σ _ (some dx) hW (g1.trans (S1.gr.beside nd pa')) (S1.beside pa' hB) (L.mono g1) ⟨dx, v, rfl, upd_same, ry⟩
  unfold raF at hh
  split at hh
  · have ev : v = .non := by cases o1; rfl
    exact go .none o1 (.inl ev) hh
  · rename_i i
    have ev : v = .int i := by cases o1; rfl
    exact go (.int i) o1 (.inr ⟨i, ev, hh.1⟩) hh.2
  · cases hh
/-! ## try: body, except x: suite -/
def canS (Z : Wi) (p : Ps) : TS := fun D σ H => ∃ Dh ρ M B as, p Dh ρ M ∧ Sat Z.K M B as H ∧ Slots Z.K B as ρ σ ∧ ExOk Z B as H ∧ EnOk Z.K Dh B as H D
theorem can_s {X : Cy} {st : List Stmt} {p : Ps} (h : YSs X st p) : PSs X st (canS X.z p) := let ⟨_, h1, h2⟩ := h; ⟨fun pins s σ H D I ⟨Dh, ρ, M, B, as, hp, S, L, W0, E⟩ => h1.run pins s σ H D I (h2 Dh ρ M hp B as σ H D S L W0 E)⟩
def whOnly (K : PySem.W.Frag) (c : Value) (Wout : Xc → Rho → Mem → Prop) (psu : Ps) (D : En) : Xc → Rho → Mem → Prop := fun x ρ' M' => ∃ b, PySem.W.exmOne K (.ref x.C) c = some b ∧ (b = true → psu D ρ' M') ∧ (b = false → Wout x ρ' M')
def pTry1 (K : PySem.W.Frag) (c : Value) (Wout : Xc → Rho → Mem → Prop) (pb : (Xc → Rho → Mem → Prop) → Ps) (psu : Ps) : Ps := fun D ρ M => pb (whOnly K c Wout psu D) D ρ M
abbrev trY (X : Cy) (pn : List (Addr × Obj)) (xe : Value → Shared → Prop) (W : WX) (Wh : Xc → Rho → Mem → Prop) : Cy := { toCx := X.toCx.tr pn xe, W := W, Wh := Wh }
abbrev suY (X : Cy) (a : Addr) (pn : List (Addr × Obj)) : Cy := { toCx := X.toCx.suite a pn, W := fun _ _ _ _ => False, Wh := fun _ _ _ => False }
theorem y_try1 {X : Cy} {x : Str} {c : Value} {body suite : List Stmt} {b₀ : Stmt} {np pos pos' : Pos} {pb : (Xc → Rho → Mem → Prop) → Ps} {psu : Ps} (hs : X.stack = X.env :: X.outer) (hf : X.env.frame = some X.env.locals) (hc : Names X.toCx x c) (tk : Takes X.toCx X.W)
    (hb : ∀ (W : WX) (Wh : Xc → Rho → Mem → Prop) (pn : List (Addr × Obj)) (xe : Value → Shared → Prop), Takes (X.toCx.tr pn xe) W → PassesOwn (model X.prog X.w) X.A X.env xe → YSs (trY X pn xe W Wh) body (pb Wh))
    (hsu : ∀ (a : Addr) (pn : List (Addr × Obj)), YSs (suY X a pn) (b₀ :: suite) psu) :
    YS X (.Try body [.ExceptHandler (some (.Name x np)) none (b₀ :: suite) pos'] [] [] pos) (pTry1 X.K c X.Wh pb psu) := by
  refine ⟨_, ps_try_only (tb := fun W D σ H => ∃ Wh, canS ⟨X.K, W, Wh⟩ (pb Wh) D σ H) (ts := fun _ _ _ => canS ⟨X.K, fun _ _ _ _ => False, fun _ _ _ => False⟩ psu) hs hf hc tk (fun W pn xe t hp => ⟨fun pins s σ H D I ⟨Wh, h⟩ => (can_s (hb W Wh pn xe t hp)).run pins s σ H D I h⟩) (fun a oe _ _ pn _ _ => can_s (hsu a ((a, oe) :: pn))), fun Dh ρ M h B as σ H D S L W0 E => ?_⟩
  refine ⟨_, Dh, ρ, M, B, as, h, S, L, ⟨fun x ρ1 M1 B1 as1 σ1 H1 d hx g1 S1 L1 xc => ?_⟩, E⟩
  obtain ⟨b, hb1, h1, h2⟩ := hx
  exact ⟨b, hb1, fun hbt a na => ⟨Dh, ρ1, M1, B1, as1, h1 hbt, S1, L1, ⟨fun _ _ _ _ _ _ _ _ h => h.elim⟩, E.on g1⟩, fun hbf => W0.ex x ρ1 M1 B1 as1 σ1 H1 d (h2 hbf) g1 S1 L1 xc⟩
end Kt
namespace Kt
open PySem PySem.Spec PyProof.Rows L2
/-! ## a call within a try's body: its wish names Wh alone -/
theorem y_cdT {X : Cy} {pn : List (Addr × Obj)} {xe : Value → Shared → Prop} {W : WX} {Wh : Xc → Rho → Mem → Prop} {x : Str} {st : Stmt} {ps : List Str} {k : Nat} {g : Gs} {e : Expr} {es : List Expr} {pa : Pa} {p pos : Pos} (d : DefOk X.prog X.w X.K X.mg X.base x st ps k g) (b : bindsAll x st ps) (hgu : X.A.guards = some []) (hr : Room k X.A) (gl : Gl X x) (tk : Takes (X.toCx.tr pn xe) W)
    (ha : YA (trY X pn xe W Wh) (e :: es) pa) (hdb : (x == ("__debug__" : Str)) = false := by decide) (he : starEach (e :: es) X.env = (false, eval e X.env) :: starEach es X.env := by rfl) (hpl : (backTo pos (starEach es X.env)).any (·.1) = false := by rfl) :
    YE (trY X pn xe W Wh) (.Call (.Name x p) (e :: es) [] pos) (pCall ps.length g Wh pa) := y_cd (X := trY X pn xe W Wh) d b hgu hr gl tk ha hdb he hpl
end Kt

set_option Elab.async false
set_option linter.all false
set_option maxRecDepth 100000
set_option maxHeartbeats 2000000
namespace Kt
open PySem PySem.Spec PyProof.Rows L2
/-! ## a def whose last parameter has the default False -/
abbrev FunB (K : PySem.W.Frag) (x : Str) (st : Stmt) (f : Addr) (fd : FuncData) : Prop := FunD K x x (defArgs st) (defBody st) (defScope st) [.bl false] [] f fd
section
variable {P : Program} {w : World} {K : PySem.W.Frag} {mg : Str → Option Value} {base : Heap} {ct : CXT}
theorem fnG_ofD {x : Str} {st : Stmt} {f : Addr} {fd : FuncData} {N ps : List Str} {k : Nat} {sp : Sp} (F : FunB K x st f fd) (S : FnScope N ps (defScope st)) (cnt : ∀ vs H Q E, sp vs H Q E → vs.length = ps.length)
    (body : ∀ (cdv : Value) (A : Around) (out : List Env) (s : Shared) (H : Hp) (vs : List V) (Q : VK) (E : XK), A.guards = some [] → Room k (A.deeper (envOfC x (defScope st) s.heap.objs.size f cdv)) → sp vs H Q E →
      ∃ t, PSs (cxOf ct P w K mg base N x (defScope st) f cdv A out s H E) (defBody st) t ∧ t { nx := fun _ H' => Q .non H', rt := Q } (start N vs) H) : FnG P w K mg base ct (k + 1) f fd ps sp := by
  obtain ⟨oc, od, dV, kV, doc, pm, an, cdv, ctx, osl, rfl, lk, hcd, _, _⟩ := F.ex
  refine ⟨cnt, fun A out s H ar us vs Q E hg hr e0 hb r hsp => ?_⟩
  have Ks : K.In s.heap := e0.mod.kin.keeps fun b o e => (e0.bs b o e).1
  have Ls : s.heap.NoLimit := e0.mod.nolimit.keeps fun b o e => (e0.bs b o e).1
  have hc := cnt vs H Q E hsp
  refine codeAny_call_function hr.depth (Ks f _ lk) rfl S.co S.gen rfl (PySem.W.codeRec_of Ks hcd) (hb _ _ _ _ ?_)
  refine wpAny_newFunctionEnv_cells S.kind (fun ⟨n, v⟩ hy => ?_) (fun env he s1 x => ?_)
  · exact (S.par n (List.of_mem_zip hy).1).imp id fun q => ⟨q, PySem.W.cellsFrom_some _ _ _ (.inl q)⟩
  · subst he
    refine ⟨Ls.keeps x.toInCall.keep, codeAny_func ?_⟩
    obtain ⟨t, ht, hq⟩ := body cdv A out s H vs Q E hg (hr.deeper _) hsp
    have I0 := inv_start (CX := ct) (P := P) (w := w) (K := K) (mg := mg) (base := base) (E := E) S hr.hd e0 hc r x
    refine wpAny_mono (ht.run [] s1 (start N vs) H _ I0 hq) (fun fl s' hs => ?_) fun e s' hs => hs
    cases fl with
    | ret u => obtain ⟨v, σ', H', J, rv, q⟩ := hs; exact (⟨v, H', J.os, J.bare, J.base, J.hok, rv, q⟩ : CE out P w H s Q u s')
    | next => obtain ⟨σ', H', J, q⟩ := hs; exact (⟨.non, H', J.os, J.bare, J.base, J.hok, rfl, q⟩ : CE out P w H s Q .none s')
    | brk => obtain ⟨_, _, _, q⟩ := hs; cases q
    | cont => obtain ⟨_, _, _, q⟩ := hs; cases q
theorem def_okD {x : Str} {st : Stmt} {f : Addr} {fd : FuncData} {N ps : List Str} {k : Nat} {g : Gs} (F : FunB K x st f fd) (S : FnScope N ps (defScope st))
    (body : ∀ (cdv : Value) (A : Around) (out : List Env) (s : Shared) (H : Hp) (E : XK) (Eh : Xc → Mem → Prop), A.guards = some [] → Room k (A.deeper (envOfC x (defScope st) s.heap.objs.size f cdv)) →
      ∃ p, YSs (cyOf P w K mg base N x st f cdv A out s H E Eh) (defBody st) p ∧ ∀ cs M Qh, cs.length = ps.length → g cs M Qh Eh → p { nx := fun _ M => Qh (.d .none) M, rt := Qh } (stR N.length cs) M) :
    FnG P w K mg base (L2.CX P w) (k + 1) f fd ps (spD K ps.length g) := by
  refine fnG_ofD F S (fun vs H Q E h => h.1) fun cdv A out s H vs Q E hg hr h => ?_
  obtain ⟨hl, cs, M, Qh, Eh, B, as, hgs, S0, o, q, qe⟩ := h
  obtain ⟨p, ⟨t, t1, t2⟩, hp⟩ := body cdv A out s H E Eh hg hr
  refine ⟨t, t1, t2 _ _ M (hp cs M Qh (by rw [← o.len]; exact hl) hgs) B as _ H _ S0 (slots_start o) ⟨fun x ρ M' B' as' σ H' d h1 g1 S1 _ xo => qe x M' B' as' H' d h1 g1 S1 xo⟩ ⟨?_, ?_, ?_, ?_⟩⟩
  · exact fun ρ M' B' as' σ H' h1 g1 S1 _ => q _ M' _ B' as' H' h1 g1 S1 .non
  · exact fun c M' B' as' v H' h1 g1 S1 o1 => q c M' v B' as' H' h1 g1 S1 o1
  · exact fun _ _ _ _ _ _ h1 => h1.elim
  · exact fun _ _ _ _ _ _ h1 => h1.elim
end
structure DefOkB (P : Program) (w : World) (K : PySem.W.Frag) (mg : Str → Option Value) (base : Heap) (x : Str) (st : Stmt) (ps : List Str) (k : Nat) (g : Gs) : Prop where
  ex : ∃ f fd, FunB K x st f fd ∧ FnG P w K mg base (L2.CX P w) k f fd ps (spD K ps.length g) ∧ mg x = some (.ref f)
/-- the last argument is left out -/
def bindsB (x : Str) (st : Stmt) (ps : List Str) : Prop := ∀ (T : Addr) (kV doc pm : Value) (an : Option Addr) (cdv ct : Value) (us its : List Value), us.length = ps.length - 1 → its.length = 1 →
  ∃ k, bindArgs (PySem.W.fnOf x x (defArgs st) (defBody st) (defScope st) (.ref T) kV doc pm an cdv ct) ⟨us, []⟩ = seqItems? (.ref T) >>= k ∧ k (some its.toArray) = pure (ps.zip (us ++ its.drop 0))
theorem DefOkB.up {P : Program} {w : World} {K : PySem.W.Frag} {mg : Str → Option Value} {base : Heap} {x : Str} {st : Stmt} {ps : List Str} {j k : Nat} {g : Gs} (d : DefOkB P w K mg base x st ps j g) (h : j ≤ k) : DefOkB P w K mg base x st ps k g :=
  let ⟨f, fd, h1, h2, h3⟩ := d; ⟨f, fd, h1, h2.up h, h3⟩
def pDef (pa : Pa) : Pa := fun ρ M Q => pa ρ M fun cs M1 => Q (cs ++ [.d (.bool false)]) M1
theorem cells_app {K : PySem.W.Frag} {B : Hp} {as : List Addr} {vs vs' : List V} {cs cs' : List Cell} (h : CellsOk K B as vs cs) (h' : CellsOk K B as vs' cs') : CellsOk K B as (vs ++ vs') (cs ++ cs') := by
  induction h with
  | nil => exact h'
  | cons h0 r ih => exact .cons h0 ih
section
variable {Z : Wi} {n : Nat} {g : Gs} {ta : TA} {pa : Pa}
theorem sim_callB (ha : SimA Z ta pa) : Sim Z (tCallSD (spD Z.K n g) [.bl false] (WE Z.W) ta) (pCall n g Z.Wh (pDef pa)) := fun ρ M Qh hp B as σ H Q S L W0 q =>
  ha ρ M _ hp B as σ H _ S L W0 fun cs M1 vs B1 as1 H1 h1 g1 S1 o1 => by
    exact call_core S1 (L.mono g1) (W0.on g1) (cells_app o1 (.cons (c := .d (.bool false)) (Rp.bl false) .nil)) h1 fun c M' v B' as' H' h g2 => q c M' v B' as' H' h (g1.trans g2)
end
section
variable {X : Cy} {k : Nat} {g : Gs} {ps ks : List Str} {x : Str} {st : Stmt} {p pos : Pos} {e : Expr} {es : List Expr} {kws : List Keyword} {pa : Pa} {ix : List Nat}
theorem y_cdB (d : DefOkB X.prog X.w X.K X.mg X.base x st ps k g) (hp : (ps.length - 1) + (1 - 0) = ps.length) (b : bindsB x st ps) (hgu : X.A.guards = some []) (hr : Room k X.A) (gl : Gl X x) (tk : Takes X X.W)
    (ha : YA X (e :: es) pa) (hdb : (x == ("__debug__" : Str)) = false := by decide) (he : starEach (e :: es) X.env = (false, eval e X.env) :: starEach es X.env := by rfl) (hpl : (backTo pos (starEach es X.env)).any (·.1) = false := by rfl) :
    YE X (.Call (.Name x p) (e :: es) [] pos) (pCall ps.length g X.Wh (pDef pa)) := by
  obtain ⟨f, fd, h1, h2, h3⟩ := d
  obtain ⟨ds, hd, hb⟩ := FunD.binds1 h1 (ps.length - 1) 0 (by simp) hp b
  obtain ⟨_, a1, a2⟩ := ha
  exact ⟨_, pe_callGS h2 hgu hr gl h3 h1.kp hb hd (fun σ => passAt tk σ) a1 hdb he hpl, sim_callB (Z := X.z) a2⟩
end
theorem w_pDef {pa : Pa} {ρ : Rho} {M : Mem} {R : Qa} (h : pa ρ M fun cs M1 => R (cs ++ [.d (.bool false)]) M1) : pDef pa ρ M R := h
theorem def_mkB {P : Program} {w : World} {K : PySem.W.Frag} {mg : Str → Option Value} {base : Heap} {x : Str} {st : Stmt} {f : Addr} {fd : FuncData} {N ps : List Str} {k : Nat} {g : Gs} (F : FunB K x st f fd) (m : mg x = some (.ref f)) (S : FnScope N ps (defScope st))
    (body : ∀ (cdv : Value) (A : Around) (out : List Env) (s : Shared) (H : Hp) (E : XK) (Eh : Xc → Mem → Prop), A.guards = some [] → Room k (A.deeper (envOfC x (defScope st) s.heap.objs.size f cdv)) →
      ∃ p, YSs (cyOf P w K mg base N x st f cdv A out s H E Eh) (defBody st) p ∧ ∀ cs M Qh, cs.length = ps.length → g cs M Qh Eh → p { nx := fun _ M => Qh (.d .none) M, rt := Qh } (stR N.length cs) M) :
    DefOkB P w K mg base x st ps (k + 1) g := ⟨f, fd, F, def_okD F S body, m⟩
end Kt

set_option Elab.async false
set_option linter.all false
set_option maxRecDepth 100000
set_option maxHeartbeats 2000000
namespace Kt
open PySem PySem.Spec PyProof.Rows L2
/-! ## a slice of the script -/
def pSlS (p : Px) (l u : Po) : Px := fun ρ M Q => p ρ M fun c M1 => l ρ M1 fun lo M2 => u ρ M2 fun hi M3 => match c with
  | .s ns => Q (.r M3.length) (M3 ++ [.live (cutD (ns.map PyData.int) lo hi)])
  | _ => False
theorem xslS {X : Cy} {e : Expr} {lo hi : Option Expr} {p : Px} {pl pu : Po} {pos p2 : Pos} (h : YE X e p) (hl : YO X lo pl) (hu : YO X hi pu) : YE X (.Subscript e (.Slice lo hi none p2) pos) (pSlS p pl pu) := by
  obtain ⟨t, h1, h2⟩ := h
  obtain ⟨tl, l1, l2⟩ := hl
  obtain ⟨tu, u1, u2⟩ := hu
  refine ⟨_, pe_slice sl_list h1 l1 u1, fun ρ M Qh h B as σ H Q S L W0 q => h2 ρ M _ h B as σ H _ S L W0 fun c M1 v B1 as1 H1 h1 g1 S1 o1 => l2 ρ M1 _ h1 B1 as1 σ H1 _ S1 (L.mono g1) (W0.on g1) fun a M2 B2 as2 H2 h2 g2 S2 =>
    u2 ρ M2 _ h2 B2 as2 σ H2 _ S2 (L.mono (g1.trans g2)) (W0.on (g1.trans g2)) fun b M3 B3 as3 H3 h3 g3 S3 => ?_⟩
  split at h3
  · rename_i ns
    obtain ⟨l, rfl, hl⟩ := (o1.mono g2).mono g3
    refine ⟨l, ns.map V.int, rfl, S3.sub.seq hl, fun x nx => ?_⟩
    have rc : RpAll X.K B3 (cutV (ns.map V.int) a b) (cutD (ns.map PyData.int) a b) := by
      unfold cutV cutD
      rw [List.length_map, List.length_map]
      exact ((RpAll.ofInts ns).drop _).take _
    obtain ⟨S4, g4, e4⟩ := S3.newL nx rc
    exact q _ _ _ _ _ _ h3 (((g1.trans g2).trans g3).trans g4) S4 ⟨x, e4, rfl⟩
  · cases h3
theorem w_slS {pe : Px} {pl pu : Po} {ρ : Rho} {M : Mem} {Q : Qx} (h : pe ρ M fun c M1 => pl ρ M1 fun lo M2 => pu ρ M2 fun hi M3 => match c with
  | .s ns => Q (.r M3.length) (M3 ++ [.live (cutD (ns.map PyData.int) lo hi)])
  | _ => False) : pSlS pe pl pu ρ M Q := h
/-! ## a dict of one's own, with numbers as keys -/
abbrev dcK (ps : List (Int × PyData)) : List (PyData × PyData) := ps.map fun p => (PyData.int p.1, p.2)
def dG : List (Int × PyData) → Int → Option PyData
  | [], _ => none
  | (k, d) :: r, i => if k = i then some d else dG r i
def dPut : List (Int × PyData) → Int → PyData → List (Int × PyData)
  | [], i, x => [(i, x)]
  | (k, d) :: r, i, x => if k = i then (k, x) :: r else (k, d) :: dPut r i x
theorem dGet_dcK : ∀ (ps : List (Int × PyData)) (i : Int), dGet (dcK ps) i = dG ps i
  | [], _ => rfl
  | (k, d) :: r, i => by
    have ih := dGet_dcK r i
    unfold dG
    show (if decKey (PyData.int k) i = true then some d else dGet (dcK r) i) = _
    by_cases e : k = i
    · rw [if_pos (show decKey (PyData.int k) i = true from decide_eq_true e), if_pos e]
    · rw [if_neg (show ¬ decKey (PyData.int k) i = true from by show ¬ decide (k = i) = true; rw [decide_eq_false e]; exact nofun), if_neg e]
      exact ih
theorem Sat.newD {K : PySem.W.Frag} {M : Mem} {B H : Hp} {as : List Addr} (S : Sat K M B as H) {p : Addr} {ws : List (Key × V)} {ds : List (Int × PyData)} (np : H p = none) (r : RpKv K B ws (dcK ds)) :
    Sat K (M ++ [.dc ds]) B (as ++ [p]) (upd H p (.dK ws)) ∧ Gr B as H B (as ++ [p]) (upd H p (.dK ws)) ∧ (as ++ [p])[M.length]? = some p := by
  have hB : B p = none := by
    cases q : B p with
    | none => rfl
    | some u =>
      have := S.sub p u q
      rw [np] at this
      cases this
  have pa : p ∉ as := fun h => S.free p h np
  have ga : (as ++ [p])[M.length]? = some p := by
    rw [← S.len, List.getElem?_append_right (Nat.le_refl _), Nat.sub_self]
    rfl
  have S1 : Sat K M B as (upd H p (.dK ws)) := S.beside pa hB
  obtain ⟨S2, e2⟩ := S1.adoptD pa hB upd_same r
  refine ⟨S2, ⟨Same.refl _, ⟨[p], rfl, fun l hl => ?_⟩, fun l x _ e => ?_, fun l h1 h2 => absurd h1 h2, fun l hl => ?_⟩, e2⟩
  · rw [List.mem_singleton.mp hl]
    exact np
  · rw [upd_ne (ne_of_none e np)]
    exact e
  · rw [upd_ne (fun e : l = p => pa (by rw [← e]; exact hl))]
    exact S.free l hl
theorem Sat.putD {K : PySem.W.Frag} {M : Mem} {B H : Hp} {as : List Addr} (S : Sat K M B as H) {n : Nat} {l : Addr} {xs ds : List (Int × PyData)} {ws : List (Key × V)} (hM : M[n]? = some (.dc xs)) (hl : as[n]? = some l) (r : RpKv K B ws (dcK ds)) :
    Sat K (M.set n (.dc ds)) B as (upd H l (.dK ws)) ∧ Gr B as H B as (upd H l (.dK ws)) := by
  have hm : l ∈ as := List.mem_of_getElem? hl
  obtain ⟨q1, us, q2, q3⟩ := S.mc n _ l hM hl
  have free : ∀ l' ∈ as, upd H l (.dK ws) l' ≠ none := fun l' hl' => by
    by_cases e : l' = l
    · rw [e, upd_same]
      exact nofun
    · rw [upd_ne e]
      exact S.free l' hl'
  refine ⟨⟨fun b x e => ?_, fun m c l' h1 h2 => ?_, S.nd, by rw [List.length_set]; exact S.len, free⟩, ⟨Same.refl _, ⟨[], by simp, by simp⟩, fun l' o h1 h2 => ?_, fun l' h1 h2 => absurd h1 h2, free⟩⟩
  · rw [upd_ne (ne_of_none e q1)]
    exact S.sub b x e
  · by_cases e : n = m
    · subst e
      rw [List.getElem?_set_self (List.getElem?_eq_some_iff.mp hM).1] at h1
      rw [hl] at h2
      cases h1
      cases h2
      exact ⟨q1, ws, upd_same, r⟩
    · rw [List.getElem?_set_ne e] at h1
      have hne : l' ≠ l := fun z => by
        subst z
        have i1 := List.getElem?_eq_some_iff.mp hl
        have i2 := List.getElem?_eq_some_iff.mp h2
        exact e ((List.getElem_inj S.nd).mp (i1.2.trans i2.2.symm))
      have := S.mc m c l' h1 h2
      cases c with
      | live xs' =>
        obtain ⟨p1, us', p2, p3⟩ := this
        exact ⟨p1, us', by rw [upd_ne hne]; exact p2, p3⟩
      | dc xs' =>
        obtain ⟨p1, us', p2, p3⟩ := this
        exact ⟨p1, us', by rw [upd_ne hne]; exact p2, p3⟩
      | fz xs' => exact this
  · rw [upd_ne (fun e : l' = l => h1 (by rw [e]; exact hm))]
    exact h2
def pDNew : Px := fun _ M Q => Q (.r M.length) (M ++ [.dc []])
theorem y_dnew {X : Cy} {pos : Pos} : YE X (.Dict [] [] pos) pDNew := ⟨_, pe_dnewK, fun ρ M Qh h B as σ H Q S L W0 q p np => by
  obtain ⟨S4, g4, e4⟩ := S.newD (ds := []) (ws := []) np .nil
  exact q _ _ _ _ _ _ h g4 S4 ⟨p, e4, rfl⟩⟩
theorem w_dnew {ρ : Rho} {M : Mem} {Q : Qx} (h : Q (.r M.length) (M ++ [.dc []])) : pDNew ρ M Q := h
theorem rpkv_put {K : PySem.W.Frag} {B : Hp} {v : V} {d : PyData} (i : Int) (hv : Rp K B v d) : ∀ {kvs : List (Key × V)} {ps : List (Int × PyData)}, RpKv K B kvs (dcK ps) → (ps.map (·.1)).Nodup → RpKv K B (putK kvs (Sum.inl i : Key) v) (dcK (dPut ps i d))
  | [], [], .nil, _ => by
    rw [putK_new v (show valV ([] : List (Key × V)) (Sum.inl i) = none from rfl)]
    exact .cons hv .nil
  | (k, w) :: kvs, (j, e) :: ps, h, nd => by
    have hk : k = Sum.inl j ∧ Rp K B w e ∧ RpKv K B kvs (dcK ps) := by
      generalize hz : (dcK ((j, e) :: ps)) = z at h
      cases h with
      | @cons k' v' kvs' d' ps' h1 h2 =>
        rw [show dcK ((j, e) :: ps) = (PyData.int j, e) :: dcK ps from rfl] at hz
        injection hz with h3 h4
        injection h3 with h5 h6
        subst h6 h4
        refine ⟨?_, h1, h2⟩
        cases k with
        | inl a => injection (show PyData.int j = PyData.int a from h5) with h7; rw [h7]
        | inr s => cases (show PyData.int j = PyData.str s from h5)
    obtain ⟨rfl, hw, hr⟩ := hk
    have nd2 : (ps.map (·.1)).Nodup := (List.nodup_cons.mp nd).2
    have ih := rpkv_put i hv hr nd2
    unfold dPut
    by_cases e : j = i
    · subst e
      rw [if_pos rfl]
      have nk : ∀ {kvs : List (Key × V)} {ps : List (Int × PyData)}, RpKv K B kvs (dcK ps) → j ∉ ps.map (·.1) → kvs.map (fun kv => if kv.1 = (Sum.inl j : Key) then (kv.1, v) else kv) = kvs := fun {kvs} => by
        induction kvs with
        | nil => intros; rfl
        | cons q kvs ih =>
          intro ps h hn
          match ps, h with
          | (j2, e2) :: ps, h =>
            generalize hz : (dcK ((j2, e2) :: ps)) = z at h
            cases h with
            | @cons k' v' kvs' d' ps' h1 h2 =>
              rw [show dcK ((j2, e2) :: ps) = (PyData.int j2, e2) :: dcK ps from rfl] at hz
              injection hz with h3 h4
              injection h3 with h5 h6
              subst h4
              rw [List.map_cons, ih h2 (fun z => hn (List.mem_cons_of_mem _ z)), if_neg]
              intro z
              dsimp only at z
              subst z
              injection (show PyData.int j2 = PyData.int j from h5) with h7
              exact hn (by rw [h7]; exact List.mem_cons_self)
      have : putK ((Sum.inl j, w) :: kvs) (Sum.inl j : Key) v = (Sum.inl j, v) :: kvs := by
        unfold putK
        rw [if_pos (by simp), List.map_cons, if_pos rfl, nk hr (List.nodup_cons.mp nd).1]
      rw [this]
      exact .cons hv hr
    · rw [if_neg e]
      have : putK ((Sum.inl j, w) :: kvs) (Sum.inl i : Key) v = (Sum.inl j, w) :: putK kvs (Sum.inl i) v := by
        have ne : (Sum.inl j : Key) ≠ Sum.inl i := fun z => e (by injection z)
        unfold putK
        simp only [List.any_cons, List.map_cons]
        rw [decide_eq_false ne, Bool.false_or]
        split <;> rfl
      rw [this]
      exact .cons hw ih
theorem dPut_keys {i : Int} {d : PyData} : ∀ {ps : List (Int × PyData)}, (ps.map (·.1)).Nodup → ((dPut ps i d).map (·.1)).Nodup ∧ (∀ k, k ∈ (dPut ps i d).map (·.1) ↔ k = i ∨ k ∈ ps.map (·.1))
  | [], _ => ⟨by simp [dPut], fun k => by simp [dPut]⟩
  | (j, e) :: ps, nd => by
    have nd' := List.nodup_cons.mp nd
    have ih := dPut_keys (i := i) (d := d) nd'.2
    unfold dPut
    by_cases h : j = i
    · rw [if_pos h]
      subst h
      refine ⟨nd, fun k => ?_⟩
      simp only [List.map_cons, List.mem_cons]
      constructor
      · exact fun z => .inr z
      · rintro (z | z)
        · exact .inl z
        · exact z
    · rw [if_neg h]
      refine ⟨?_, fun k => ?_⟩
      · rw [List.map_cons, List.nodup_cons]
        refine ⟨fun z => ?_, ih.1⟩
        rcases (ih.2 j).mp z with z | z
        · exact h z
        · exact nd'.1 z
      · rw [List.map_cons, List.mem_cons, ih.2 k, List.map_cons, List.mem_cons]
        constructor
        · rintro (z | z | z)
          · exact .inr (.inl z)
          · exact .inl z
          · exact .inr (.inr z)
        · rintro (z | z | z)
          · exact .inr (.inl z)
          · exact .inl z
          · exact .inr (.inr z)
theorem rpkv_len {K : PySem.W.Frag} {B : Hp} : ∀ {kvs : List (Key × V)} {ps : List (PyData × PyData)}, RpKv K B kvs ps → kvs.length = ps.length
  | _, _, .nil => rfl
  | _, _, .cons _ r => by rw [List.length_cons, List.length_cons, rpkv_len r]
/-- d[k] = v -/
def dputQ (R : Mem → Prop) (c k x : Cell) (M : Mem) : Prop := match c, k with
  | .r n, .d (.int i) => (match asD x M with
    | some (d, M4) => (match M4[n]? with
      | some (.dc ps) => (ps.map (·.1)).Nodup ∧ ps.length < sizeLine ∧ R (M4.set n (.dc (dPut ps i d)))
      | _ => False)
    | none => False)
  | _, _ => False
def pDSet (po pi pv : Px) : Ps := fun D ρ M => pv ρ M fun x M1 => po ρ M1 fun c M2 => pi ρ M2 fun k M3 => dputQ (D.nx ρ) c k x M3
theorem y_dset {X : Cy} {kk : Nat} {o i value : Expr} {po pi pv : Px} {pos pos' : Pos} (hr : Room kk X.A) (ho : YE X o po) (hi : YE X i pi) (hv : YE X value pv) (hs : swapsWith value (some (.Subscript o i pos')) pos.line X.env = pure false := by rfl) : YS X (.Assign [.Subscript o i pos'] value pos) (pDSet po pi pv) := by
  obtain ⟨to, o1, o2⟩ := ho
  obtain ⟨ti, i1, i2⟩ := hi
  obtain ⟨tv, v1, v2⟩ := hv
  refine ⟨_, ps_dput (by have := hr.units; omega) o1 i1 v1 hs, fun D ρ M h B as σ H D' S L W0 en => ?_⟩
  refine v2 ρ M _ h B as σ H _ S L W0 fun x M1 v B1 as1 H1 h1 g1 S1 c1 => ?_
  refine o2 ρ M1 _ h1 B1 as1 σ H1 _ S1 (L.mono g1) (W0.on g1) fun c M2 u B2 as2 H2 h2 g2 S2 c2 => ?_
  refine i2 ρ M2 _ h2 B2 as2 σ H2 _ S2 (L.mono (g1.trans g2)) (W0.on (g1.trans g2)) fun k M3 w B3 as3 H3 h3 g3 S3 c3 => ?_
  unfold dputQ at h3
  split at h3
  · rename_i n i
    obtain ⟨l, hl, rfl⟩ := c2
    have hl3 := g3.pre hl
    have ew : w = .int i := by cases (show Rp X.K B3 w (.int i) from c3); rfl
    subst ew
    split at h3
    · rename_i d M4 ed
      obtain ⟨B4, S4, g4, r4⟩ := asD_ok S3 ((c1.mono g2).mono g3) ed
      split at h3
      · rename_i ps hm
        have hl4 := g4.pre hl3
        obtain ⟨_, kvs, hw, rr⟩ := S4.mc _ _ l hm hl4
        obtain ⟨S5, g5⟩ := S4.putD hm hl4 (rpkv_put i r4 rr h3.1)
        have ga := (((g1.trans g2).trans g3).trans g4).trans g5
        exact ⟨l, _, rfl, .inl ⟨kvs, Sum.inl i, hw, rfl, by rw [rpkv_len rr, List.length_map]; exact h3.2.1, rfl⟩, en.nx _ _ _ _ _ _ h3.2.2 ga S5 (L.mono ga)⟩
      · cases h3
    · cases h3
  · cases h3
theorem w_dset {po pi pv : Px} {D : En} {ρ : Rho} {M : Mem} (h : pv ρ M fun x M1 => po ρ M1 fun c M2 => pi ρ M2 fun k M3 => dputQ (D.nx ρ) c k x M3) : pDSet po pi pv D ρ M := h
theorem w_dputI {n : Nat} {i : Int} {x : PyData} {M : Mem} {R : Mem → Prop} {ps : List (Int × PyData)} (m : M[n]? = some (.dc ps)) (nd : (ps.map (·.1)).Nodup) (hl : ps.length < sizeLine) (h : R (M.set n (.dc (dPut ps i x)))) : dputQ R (.r n) (.d (.int i)) (.d x) M := by
  unfold dputQ
  dsimp only [asD]
  rw [m]
  exact ⟨nd, hl, h⟩
/-! ## reading a dict: d[k], k in d, len(d), d.get(k, x) -/
theorem deref_dict {K : PySem.W.Frag} {M : Mem} {B H : Hp} {as : List Addr} {c : Cell} {v : V} {ps : List (PyData × PyData)} (S : Sat K M B as H) (h : CellOk K B as v c) (e : deref c M = some (.dict ps)) : ∃ l kvs, v = .ref l ∧ H l = some (.dK kvs) ∧ RpKv K B kvs ps := by
  cases c with
  | d y =>
    cases e
    cases (show Rp K B v (.dict ps) from h) with
    | dct h5 r5 => exact ⟨_, _, rfl, S.sub _ _ h5, r5⟩
  | s ns => cases e
  | t _ _ => cases e
  | a _ => cases e
  | r n =>
    obtain ⟨l, hl, rfl⟩ := h
    unfold deref at e
    dsimp only at e
    split at e
    · cases e
    · cases e
    · rename_i xs hm
      cases e
      obtain ⟨_, kvs, q2, q3⟩ := S.mc n _ l hm hl
      exact ⟨l, kvs, rfl, q2, q3⟩
    · cases e
def dgetQ (Q : Qx) (c k : Cell) (M : Mem) : Prop := match deref c M, k with
  | some (.dict ps), .d (.int i) => (match dGet ps i with
    | some d => Q (.d d) M
    | none => False)
  | _, _ => False
def pDGet (po pi : Px) : Px := fun ρ M Q => po ρ M fun c M1 => pi ρ M1 fun k M2 => dgetQ Q c k M2
theorem y_dget {X : Cy} {kk : Nat} {o i : Expr} {po pi : Px} {pos : Pos} (hr : Room kk X.A) (hs : NoSl i) (ho : YE X o po) (hi : YE X i pi) : YE X (.Subscript o i pos) (pDGet po pi) := by
  obtain ⟨to, o1, o2⟩ := ho
  obtain ⟨ti, i1, i2⟩ := hi
  refine ⟨_, pe_dget (by have := hr.units; omega) o1 i1 hs, fun ρ M Qh h B as σ H Q S L W0 q => ?_⟩
  refine o2 ρ M _ h B as σ H _ S L W0 fun c M1 v B1 as1 H1 h1 g1 S1 c1 => i2 ρ M1 _ h1 B1 as1 σ H1 _ S1 (L.mono g1) (W0.on g1) fun k M2 w B2 as2 H2 h2 g2 S2 c2 => ?_
  unfold dgetQ at h2
  split at h2
  · rename_i ps i ed
    obtain ⟨l, kvs, rfl, hl, rk⟩ := deref_dict S2 (c1.mono g2) ed
    have ew : w = .int i := by cases (show Rp X.K B2 w (.int i) from c2); rfl
    subst ew
    rcases rpkv_get rk i with ⟨a1, a2⟩ | ⟨v, d, a1, a2, a3⟩
    · rw [a2] at h2
      cases h2
    · rw [a2] at h2
      refine ⟨l, v, rfl, ?_, q _ _ _ _ _ _ h2 (g1.trans g2) S2 a3⟩
      have := DGet.k (k := (Sum.inl i : Key)) hl
      rw [a1] at this
      exact this
  · cases h2
theorem w_dget {po pi : Px} {ρ : Rho} {M : Mem} {Q : Qx} (h : po ρ M fun c M1 => pi ρ M1 fun k M2 => dgetQ Q c k M2) : pDGet po pi ρ M Q := h
theorem w_dgetI {n : Nat} {i : Int} {x : PyData} {M : Mem} {Q : Qx} {ps : List (Int × PyData)} (m : M[n]? = some (.dc ps)) (e : dG ps i = some x) (h : Q (.d x) M) : dgetQ Q (.r n) (.d (.int i)) M := by
  unfold dgetQ deref
  dsimp only
  rw [m]
  dsimp only
  rw [dGet_dcK, e]
  exact h
def dinQ (neg : Bool) (Q : Qx) (c k : Cell) (M : Mem) : Prop := match deref c M, k with
  | some (.dict ps), .d (.int i) => Q (.d (.bool (xor neg (dGet ps i).isSome))) M
  | _, _ => False
def pDIn (neg : Bool) (pi po : Px) : Px := fun ρ M Q => pi ρ M fun k M1 => po ρ M1 fun c M2 => dinQ neg Q c k M2
theorem sim_din {X : Cy} {i o : Expr} {po pi : Px} {to ti : TE} {neg : Bool} {t : TE} (o2 : Sim X.z to po) (i2 : Sim X.z ti pi) (ht : t = fun σ H Q => ti σ H fun y H1 => to σ H1 fun x H2 => ∃ a o, x = .ref a ∧ DGet H2 a y o ∧ Q (.bl (xor neg o.isSome)) H2) : Sim X.z t (pDIn neg pi po) := by
  subst ht
  refine fun ρ M Qh h B as σ H Q S L W0 q => ?_
  refine i2 ρ M _ h B as σ H _ S L W0 fun k M1 w B1 as1 H1 h1 g1 S1 c1 => o2 ρ M1 _ h1 B1 as1 σ H1 _ S1 (L.mono g1) (W0.on g1) fun c M2 v B2 as2 H2 h2 g2 S2 c2 => ?_
  unfold dinQ at h2
  split at h2
  · rename_i ps i ed
    obtain ⟨l, kvs, rfl, hl, rk⟩ := deref_dict S2 c2 ed
    have ew : w = .int i := by cases (show Rp X.K B2 w (.int i) from c1.mono g2); rfl
    subst ew
    refine ⟨l, _, rfl, DGet.k (k := (Sum.inl i : Key)) hl, ?_⟩
    rcases rpkv_get rk i with ⟨a1, a2⟩ | ⟨v, d, a1, a2, a3⟩
    · rw [a2] at h2
      rw [a1]
      exact q _ _ _ _ _ _ h2 (g1.trans g2) S2 (Rp.bl _)
    · rw [a2] at h2
      rw [a1]
      exact q _ _ _ _ _ _ h2 (g1.trans g2) S2 (Rp.bl _)
  · cases h2
theorem tDIn_eq (ti to : TE) : tDIn ti to = fun σ H Q => ti σ H fun y H1 => to σ H1 fun x H2 => ∃ a o, x = .ref a ∧ DGet H2 a y o ∧ Q (.bl (xor false o.isSome)) H2 := by
  unfold tDIn
  simp only [Bool.false_xor]
theorem tDNotIn_eq (ti to : TE) : tDNotIn ti to = fun σ H Q => ti σ H fun y H1 => to σ H1 fun x H2 => ∃ a o, x = .ref a ∧ DGet H2 a y o ∧ Q (.bl (xor true o.isSome)) H2 := by
  unfold tDNotIn
  simp only [Bool.true_xor]
section
variable {X : Cy} {kk : Nat} {o i : Expr} {po pi : Px} {pos : Pos}
theorem y_din (hr : Room kk X.A) (hi : YE X i pi) (ho : YE X o po) (h1 : behindInMarks .In o = false := by rfl) : YE X (.Compare i [.In] [o] pos) (pDIn false pi po) := by
  obtain ⟨to, o1, o2⟩ := ho
  obtain ⟨ti, i1, i2⟩ := hi
  exact ⟨_, pe_cmp (pc_din (by have := hr.units; omega) i1 o1) h1, sim_din (i := i) (o := o) o2 i2 (tDIn_eq _ _)⟩
theorem y_dnin (hr : Room kk X.A) (hi : YE X i pi) (ho : YE X o po) (h1 : behindInMarks .NotIn o = false := by rfl) : YE X (.Compare i [.NotIn] [o] pos) (pDIn true pi po) := by
  obtain ⟨to, o1, o2⟩ := ho
  obtain ⟨ti, i1, i2⟩ := hi
  exact ⟨_, pe_cmp (pc_dnotin (by have := hr.units; omega) i1 o1) h1, sim_din (i := i) (o := o) o2 i2 (tDNotIn_eq _ _)⟩
theorem yt_din (hr : Room kk X.A) (hi : YE X i pi) (ho : YE X o po) (h1 : behindInMarks .In o = false := by rfl) : YT X (.Compare i [.In] [o] pos) (pTst (pDIn false pi po)) := by
  obtain ⟨to, o1, o2⟩ := ho
  obtain ⟨ti, i1, i2⟩ := hi
  exact ⟨_, pt_cmp (pc_din (by have := hr.units; omega) i1 o1) h1, simT_test (sim_din (i := i) (o := o) o2 i2 (tDIn_eq _ _))⟩
theorem yt_dnin (hr : Room kk X.A) (hi : YE X i pi) (ho : YE X o po) (h1 : behindInMarks .NotIn o = false := by rfl) : YT X (.Compare i [.NotIn] [o] pos) (pTst (pDIn true pi po)) := by
  obtain ⟨to, o1, o2⟩ := ho
  obtain ⟨ti, i1, i2⟩ := hi
  exact ⟨_, pt_cmp (pc_dnotin (by have := hr.units; omega) i1 o1) h1, simT_test (sim_din (i := i) (o := o) o2 i2 (tDNotIn_eq _ _))⟩
end
theorem w_din {neg : Bool} {po pi : Px} {ρ : Rho} {M : Mem} {Q : Qx} (h : pi ρ M fun k M1 => po ρ M1 fun c M2 => dinQ neg Q c k M2) : pDIn neg pi po ρ M Q := h
theorem w_dinI {neg : Bool} {n : Nat} {i : Int} {M : Mem} {Q : Qx} {ps : List (Int × PyData)} (m : M[n]? = some (.dc ps)) (h : Q (.d (.bool (xor neg (dG ps i).isSome))) M) : dinQ neg Q (.r n) (.d (.int i)) M := by
  unfold dinQ deref
  dsimp only
  rw [m]
  dsimp only
  rw [dGet_dcK]
  exact h
def rLnD : Pr := fun cs M Q => match cs with
  | [c] => (match deref c M with
    | some (.dict ps) => Q (.d (.int ps.length)) M
    | _ => False)
  | _ => False
theorem xc_lenD {X : Cy} : YCl X (.builtin "len") rLnD := ⟨_, call_lenD, fun cs M Qh h B as vs H Q S o q => by
  unfold rLnD at h
  split at h
  · rename_i c
    obtain _ | ⟨o1, o2⟩ := o
    cases o2
    split at h
    · rename_i ps ed
      obtain ⟨l, kvs, rfl, hl, rk⟩ := deref_dict S o1 ed
      refine ⟨l, kvs, rfl, hl, ?_⟩
      rw [rpkv_len rk]
      exact q _ M _ B as H h S.gr S (Rp.int _)
    · cases h
  · cases h⟩
theorem w_lnDI {n : Nat} {M : Mem} {Q : Qx} {ps : List (Int × PyData)} (m : M[n]? = some (.dc ps)) (h : Q (.d (.int ps.length)) M) : rLnD [.r n] M Q := by
  unfold rLnD deref
  dsimp only
  rw [m]
  dsimp only
  rw [List.length_map]
  exact h
/-! ## written dicts, as data -/
theorem y_dlit0 {X : Cy} {pos : Pos} : YE X (.Dict [] [] pos) (pC (.dict [])) := ⟨_, pe_dnewK, fun ρ M Qh h B as σ H Q S L W0 q p np => by
  obtain ⟨S3, g3⟩ := S.new (o := .dK []) np
  exact q _ _ _ _ _ _ h g3 S3 (Rp.dct upd_same .nil)⟩
theorem Sat.aside {K : PySem.W.Frag} {M : Mem} {B H : Hp} {as : List Addr} (S : Sat K M B as H) {D : Addr} {o : HO} (hD : D ∉ as) (hB : B D = none) : Sat K M (upd B D o) as (upd H D o) := by
  have sb : Same B (upd B D o) := fun b x e => by
    rw [upd_ne (ne_of_none e hB)]
    exact e
  refine ⟨fun b x e => ?_, fun n c l h1 h2 => ?_, S.nd, S.len, fun l hl => ?_⟩
  · by_cases hb : b = D
    · subst hb
      rw [upd_same] at e ⊢
      exact e
    · rw [upd_ne hb] at e ⊢
      exact S.sub b x e
  · have hlp : l ≠ D := fun e => hD (by rw [← e]; exact List.mem_of_getElem? h2)
    have := S.mc n c l h1 h2
    cases c with
    | live xs =>
      obtain ⟨q1, ws, q2, q3⟩ := this
      exact ⟨by rw [upd_ne hlp]; exact q1, ws, by rw [upd_ne hlp]; exact q2, q3.mono sb⟩
    | dc ps =>
      obtain ⟨q1, ws, q2, q3⟩ := this
      exact ⟨by rw [upd_ne hlp]; exact q1, ws, by rw [upd_ne hlp]; exact q2, RpKv.mono sb q3⟩
    | fz xs =>
      obtain ⟨ws, q2, q3⟩ := this
      exact ⟨ws, sb _ _ q2, q3.mono sb⟩
  · have hn : l ≠ D := fun z => hD (z ▸ hl)
    rw [upd_ne hn]
    exact S.free l hl
theorem Gr.aside {B H B' H' : Hp} {as as' : List Addr} {D : Addr} {o : HO} (g : Gr B as H B' as' H') (h0 : H D = none) (hD : D ∉ as') (hB : B' D = none) : Gr B as H (upd B' D o) as' (upd H' D o) := by
  have sb : Same B' (upd B' D o) := fun b x e => by
    rw [upd_ne (ne_of_none e hB)]
    exact e
  refine ⟨fun b x e => sb _ _ (g.b _ _ e), g.a, fun l u h1 h2 => ?_, fun l h1 h2 => ?_, fun l hl => ?_⟩
  · rw [upd_ne (ne_of_none h2 h0)]
    exact g.h l u h1 h2
  · by_cases hb : l = D
    · subst hb
      exact .inl h0
    · rw [upd_ne hb] at h2
      exact g.n l h1 h2
  · obtain ⟨t, e, _⟩ := g.a
    have hn : l ≠ D := fun z => hD (by rw [e]; exact List.mem_append_left _ (z ▸ hl))
    rw [upd_ne hn]
    exact g.k l hl
def d1Q (Q : Qx) (ck cv : Cell) (M : Mem) : Prop := match ck with
  | .d (.int i) => (match asD cv M with
    | some (d, M3) => Q (.d (.dict [(.int i, d)])) M3
    | none => False)
  | _ => False
def pD1 (pk pv : Px) : Px := fun ρ M Q => pk ρ M fun ck M1 => pv ρ M1 fun cv M2 => d1Q Q ck cv M2
theorem y_dlit1 {X : Cy} {k v : Expr} {pk pv : Px} {pos : Pos} (hk : YE X k pk) (hv : YE X v pv) : YE X (.Dict [some k] [v] pos) (pD1 pk pv) := by
  obtain ⟨tk, k1, k2⟩ := hk
  obtain ⟨tv, v1, v2⟩ := hv
  refine ⟨_, pe_disp (pps_cons k1 v1 pps_nil) rfl rfl (by simp) (by simp), fun ρ M Qh h B as σ H Q S L W0 q p np => ?_⟩
  have pa : p ∉ as := fun z => S.free p z np
  have hB : B p = none := by
    cases e : B p with
    | none => rfl
    | some u =>
      have := S.sub p u e
      rw [np] at this
      cases this
  have S0 : Sat X.z.K M B as (upd H p (.dK [])) := S.beside pa hB
  have g0 : Gr B as H B as (upd H p (.dK [])) := S.gr.beside np pa
  refine k2 ρ M _ h B as σ _ _ S0 L (W0.on g0) fun ck M1 vk B1 as1 H1 h1 g1 S1 c1 => ?_
  refine v2 ρ M1 _ h1 B1 as1 σ H1 _ S1 (L.mono g1) ((W0.on g0).on g1) fun cv M2 vv B2 as2 H2 h2 g2 S2 c2 => ?_
  unfold d1Q at h2
  split at h2
  · rename_i i
    have ev : vk = .int i := by cases (show Rp X.K B1 vk (.int i) from c1); rfl
    subst ev
    split at h2
    · rename_i d M3 ed
      obtain ⟨B3, S3, g3, r3⟩ := asD_ok S2 c2 ed
      have gg := (g1.trans g2).trans g3
      obtain ⟨n1, n2, n3⟩ := gg.side pa hB upd_same
      refine ⟨n3, [(Sum.inl i, vv)], rfl, by simp, ?_⟩
      have e1 : mergeK [] [((Sum.inl i : Key), vv)] = [(Sum.inl i, vv)] := by
        show putK [] (Sum.inl i : Key) vv = _
        rw [putK_new vv (show valV ([] : List (Key × V)) (Sum.inl i) = none from rfl)]
        rfl
      rw [e1]
      have g4 : Gr B as H (upd B3 p (.dK [(Sum.inl i, vv)])) as2 (upd H2 p (.dK [(Sum.inl i, vv)])) := (g0.trans gg).aside np n1 n2
      refine q _ _ _ _ _ _ h2 g4 (S3.aside n1 n2) (Rp.dct upd_same (.cons (r3.mono ?_) .nil))
      exact fun b x e => by
        rw [upd_ne (ne_of_none e n2)]
        exact e
    · cases h2
  · cases h2
theorem w_d1 {pk pv : Px} {ρ : Rho} {M : Mem} {Q : Qx} (h : pk ρ M fun ck M1 => pv ρ M1 fun cv M2 => d1Q Q ck cv M2) : pD1 pk pv ρ M Q := h
theorem w_d1I {i : Int} {x : PyData} {M : Mem} {Q : Qx} (h : Q (.d (.dict [(.int i, x)])) M) : d1Q Q (.d (.int i)) (.d x) M := h
/-- str(n) -/
def rStr : Pr := fun cs M Q => match cs with
  | [.d (.int i)] => i.natAbs.log2 < 1920 ∧ Q (.d (.str (toString i))) M
  | _ => False
theorem xc_str {X : Cy} : YCl X (.type "str") rStr := ⟨_, call_str_int, fun cs M Qh h B as vs H Q S o q => by
  unfold rStr at h
  split at h
  · rename_i i
    obtain _ | ⟨o1, o2⟩ := o
    cases o2
    cases (show Rp _ _ _ (.int i) from o1)
    exact ⟨i, rfl, h.1, q _ M _ B as H h.2 S.gr S (Rp.str _)⟩
  · cases h⟩
theorem w_str {i : Int} {M : Mem} {Q : Qx} (hi : i.natAbs.log2 < 1920) (h : Q (.d (.str (toString i))) M) : rStr [.d (.int i)] M Q := ⟨hi, h⟩
/-! ## divmod, gcd -/
def rDm : Pr := fun cs M Q => match cs with
  | [.d (.int i), .d (.int j)] => CDivW i j ∧ Q (.d (.tuple [.int (i / j), .int (i % j)])) M
  | _ => False
theorem xc_divmod {X : Cy} : YCl X (.builtin "divmod") rDm := ⟨_, call_divmodW, fun cs M Qh h B as vs H Q S o q => by
  unfold rDm at h
  split at h
  · rename_i i j
    obtain _ | ⟨o1, _ | ⟨o2, o3⟩⟩ := o
    cases o3
    cases (show Rp _ _ _ (.int i) from o1)
    cases (show Rp _ _ _ (.int j) from o2)
    refine ⟨i, j, rfl, ⟨h.1.1, PyProof.noPylong_of_log2 h.1.2⟩, fun p np => ?_⟩
    obtain ⟨S3, g3⟩ := S.new (o := .tup [.int (i / j), .int (i % j)]) np
    exact q _ M _ _ _ _ h.2 g3 S3 (Rp.tup (.inl (.inl upd_same)) (.cons (.int _) (.cons (.int _) .nil)))
  · cases h⟩
theorem w_dm {i j : Int} {M : Mem} {Q : Qx} (hc : CDivW i j) (h : Q (.d (.tuple [.int (i / j), .int (i % j)])) M) : rDm [.d (.int i), .d (.int j)] M Q := ⟨hc, h⟩
def rGc : Pr := fun cs M Q => match cs with
  | [.d (.int i), .d (.int j)] => Q (.d (.int ((Nat.gcd i.natAbs j.natAbs : Nat) : Int))) M
  | _ => False
theorem xc_gcd {X : Cy} : YCl X (.builtin "math.gcd") rGc := ⟨_, cr_gcd, fun cs M Qh h B as vs H Q S o q => by
  unfold rGc at h
  split at h
  · rename_i i j
    obtain _ | ⟨o1, _ | ⟨o2, o3⟩⟩ := o
    cases o3
    cases (show Rp _ _ _ (.int i) from o1)
    cases (show Rp _ _ _ (.int j) from o2)
    exact ⟨i, j, rfl, q _ M _ B as H h S.gr S (Rp.int _)⟩
  · cases h⟩
theorem w_gc {i j : Int} {M : Mem} {Q : Qx} (h : Q (.d (.int ((Nat.gcd i.natAbs j.natAbs : Nat) : Int))) M) : rGc [.d (.int i), .d (.int j)] M Q := h
theorem xcbf {X : Cy} {e : Expr} {es : List Expr} {x : Str} {id : String} {pa : Pa} {r : Pr} {p pos : Pos} (hc : YCl X (.builtin id) r) (hg : Gl X x) (hm : X.mg x = some (.builtin id)) (ha : YA X (e :: es) pa) (hdb : (x == ("__debug__" : Str)) = false := by decide)
    (he : starEach (e :: es) X.env = (false, eval e X.env) :: starEach es X.env := by rfl) (hpl : (backTo pos (starEach es X.env)).any (·.1) = false := by rfl) : YE X (.Call (.Name x p) (e :: es) [] pos) (pCB r pa) := by
  obtain ⟨rc, c1, c2⟩ := hc
  obtain ⟨ta, a1, a2⟩ := ha
  exact ⟨_, pe_callBfun c1 hg hm a1 hdb he hpl, simCB c2 a2⟩
/-! ## a = b = x -/
def pAsg2 (pe : Px) (g1 g2 : Pg) : Ps := fun D ρ M => pe ρ M fun c M1 => g1 c ρ M1 fun ρ1 M2 => g2 c ρ1 M2 D.nx
def pAsg3 (pe : Px) (g1 g2 g3 : Pg) : Ps := fun D ρ M => pe ρ M fun c M1 => g1 c ρ M1 fun ρ1 M2 => g2 c ρ1 M2 fun ρ2 M3 => g3 c ρ2 M3 D.nx
section
variable {X : Cy} {e t1 t2 t3 : Expr} {pe : Px} {g1 g2 g3 : Pg} {pos : Pos}
theorem y_asg2 (he : YE X e pe) (h1 : YG X t1 g1) (h2 : YG X t2 g2) (ha : (assignEach [t1, t2] X.env).map (·.2) = [assign t1 X.env, assign t2 X.env] := by rfl) (hw : swappedStores [t1, t2] e X.env = pure none := by rfl) : YS X (.Assign [t1, t2] e pos) (pAsg2 pe g1 g2) := by
  obtain ⟨_, a1, a2⟩ := he
  obtain ⟨_, b1, b2⟩ := h1
  obtain ⟨_, c1, c2⟩ := h2
  exact ⟨_, ps_asg2 a1 b1 c1 ha hw, fun D ρ M h B as σ H D' S L W0 en => a2 ρ M _ h B as σ H _ S L W0 fun c M1 v B1 as1 H1 hh g1 S1 o1 =>
    b2 c ρ M1 _ hh B1 as1 v σ H1 _ S1 (L.mono g1) o1 (W0.on g1) fun ρ2 M2 B2 as2 σ2 H2 h2 g2 S2 L2 =>
    c2 c ρ2 M2 _ h2 B2 as2 v σ2 H2 _ S2 L2 (o1.mono g2) (W0.on (g1.trans g2)) fun ρ' M' B' as' σ' H' h' g' S' L' => en.nx ρ' M' B' as' σ' H' h' ((g1.trans g2).trans g') S' L'⟩
theorem y_asg3 (he : YE X e pe) (h1 : YG X t1 g1) (h2 : YG X t2 g2) (h3 : YG X t3 g3) (ha : (assignEach [t1, t2, t3] X.env).map (·.2) = [assign t1 X.env, assign t2 X.env, assign t3 X.env] := by rfl) (hw : swappedStores [t1, t2, t3] e X.env = pure none := by rfl) : YS X (.Assign [t1, t2, t3] e pos) (pAsg3 pe g1 g2 g3) := by
  obtain ⟨_, a1, a2⟩ := he
  obtain ⟨_, b1, b2⟩ := h1
  obtain ⟨_, c1, c2⟩ := h2
  obtain ⟨_, d1, d2⟩ := h3
  exact ⟨_, ps_asg3 a1 b1 c1 d1 ha hw, fun D ρ M h B as σ H D' S L W0 en => a2 ρ M _ h B as σ H _ S L W0 fun c M1 v B1 as1 H1 hh g1 S1 o1 =>
    b2 c ρ M1 _ hh B1 as1 v σ H1 _ S1 (L.mono g1) o1 (W0.on g1) fun ρ2 M2 B2 as2 σ2 H2 h2 g2 S2 L2 =>
    c2 c ρ2 M2 _ h2 B2 as2 v σ2 H2 _ S2 L2 (o1.mono g2) (W0.on (g1.trans g2)) fun ρ3 M3 B3 as3 σ3 H3 h3 g3 S3 L3 =>
    d2 c ρ3 M3 _ h3 B3 as3 v σ3 H3 _ S3 L3 ((o1.mono g2).mono g3) (W0.on ((g1.trans g2).trans g3)) fun ρ' M' B' as' σ' H' h' g' S' L' => en.nx ρ' M' B' as' σ' H' h' (((g1.trans g2).trans g3).trans g') S' L'⟩
end
theorem w_asg2 {pe : Px} {g1 g2 : Pg} {D : En} {ρ : Rho} {M : Mem} (h : pe ρ M fun c M1 => g1 c ρ M1 fun ρ1 M2 => g2 c ρ1 M2 D.nx) : pAsg2 pe g1 g2 D ρ M := h
theorem w_asg3 {pe : Px} {g1 g2 g3 : Pg} {D : En} {ρ : Rho} {M : Mem} (h : pe ρ M fun c M1 => g1 c ρ M1 fun ρ1 M2 => g2 c ρ1 M2 fun ρ2 M3 => g3 c ρ2 M3 D.nx) : pAsg3 pe g1 g2 g3 D ρ M := h
theorem w_seqAsg2 {pe : Px} {g1 g2 : Pg} {q : Ps} {D : En} {ρ : Rho} {M : Mem} (h : pe ρ M fun c M1 => g1 c ρ M1 fun ρ1 M2 => g2 c ρ1 M2 (q D)) : pSeq (pAsg2 pe g1 g2) q D ρ M := h
/-! ## an own class of errors whose __init__ keeps its argument, as it stands behind the top -/
structure KErr (K : PySem.W.Frag) (mg : Str → Option Value) (x y q : Str) (st : Stmt) (C : Addr) : Prop where
  gC : mg x = some (.ref C)
  T : OexC K C
  hno : PySem.W.findIn K (.ref C) y = some none
  ini : ∃ fI fd, PySem.W.findIn K (.ref C) "__init__" = some (some (.ref fI)) ∧ PySem.W.typeIn K (.ref fI) = some (.type "function") ∧ Fun K "__init__" q st fI fd
  base : ∃ W mc, mg "WheelError" = some (.ref W) ∧ PySem.W.specialIn K (.ref W) "__getattribute__" = some (some (.builtin "type.__getattribute__")) ∧ PySem.W.readsIn K W mc = true ∧ PySem.W.typeIn K (.ref W) = some mc ∧ PySem.W.findCls K (.ref W) mc "__init__" = some (.val (.builtin "ValueError.__init__"))
theorem exm_self {K : PySem.W.Frag} {S : Addr} (h1 : PySem.W.subIn K (.ref S) (.type "BaseException") = some true) (h2 : PySem.W.isClsIn K S = true) (h3 : PySem.W.typeIn K (.ref S) = some (.type "type")) (h4 : PySem.W.subIn K (.ref S) (.ref S) = some true) :
    PySem.W.exmOne K (.ref S) (.ref S) = some true := by
  have e1 : (PySem.W.subIn K (.ref S) (.type "BaseException") == some true) = true := by rw [h1] <;> rfl
  have e2 : ((PySem.W.clsIn K S).isSome && PySem.W.typeIn K (.ref S) == some (.type "type")) = true := by
    have h2' : (PySem.W.clsIn K S).isSome = true := h2
    rw [h2', h3] <;> rfl
  show (if (PySem.W.subIn K (.ref S) (.type "BaseException") == some true) = true then (if ((PySem.W.clsIn K S).isSome && PySem.W.typeIn K (.ref S) == some (.type "type")) = true then PySem.W.subIn K (.ref S) (.ref S) else none) else none) = some true
  rw [if_pos e1, if_pos e2]
  exact h4
theorem kerr_mk {K : PySem.W.Frag} {h : Heap} {mg : Str → Option Value} {x y q : Str} {st : Stmt} (X : K.In h) (G : h.Ns mainGlobals mg) {C fI W : Addr} {nm qn : Str} {N : Addr} {bs bm : List Value} {sn : List Str} {sub : List Value} {ab : Bool} {col : Option Bool} {dd : Option Addr} {m0 m1 m2 m3 m5 : Option Value}
    {od an : Option Addr} {sl : Array (Option Value)} {oc kV dc pm cd ct mc : Value}
    (aC : PySem.W.nsIn K mainGlobals x = some (some (.ref C))) (xL : K.lookup C = some (excClassObj nm qn C N bs bm true sn sub ab col dd m0 m1 m2 m3 m5 "ValueError.__new__")) (rv : PySem.HandSPX.refsVE bm = true)
    (sa : PySem.W.findIn K (.ref C) "__setattr__" = some (some (.builtin "object.__setattr__"))) (nb : PySem.W.findIn K (.ref C) y = some none) (a1 : PySem.W.findIn K (.ref C) "__init__" = some (some (.ref fI))) (t1 : PySem.W.typeIn K (.ref fI) = some (.type "function"))
    (l1 : K.lookup fI = some ⟨oc, od, .func (PySem.W.fnOf "__init__" q (defArgs st) (defBody st) (defScope st) .none kV dc pm an cd ct), sl⟩) (c1 : PySem.W.codeIn K cd q = true) (k1 : PySem.W.keepIn K (.ref fI) = true)
    (kC : PySem.W.keepIn K (.ref C) = true) (eC : PySem.W.subIn K (.ref C) (.type "BaseException") = some true) (tC : PySem.W.typeIn K (.ref C) = some (.type "type"))
    (aW : PySem.W.nsIn K mainGlobals "WheelError" = some (some (.ref W))) (sW : PySem.W.specialIn K (.ref W) "__getattribute__" = some (some (.builtin "type.__getattribute__"))) (tW : PySem.W.typeIn K (.ref W) = some mc) (rW : PySem.W.readsIn K W mc = true)
    (vW : PySem.W.findCls K (.ref W) mc "__init__" = some (.val (.builtin "ValueError.__init__"))) : KErr K mg x y q st C :=
  ⟨PySem.W.mg_of X G aC, ⟨⟨nm, qn, N, bs, bm, sn, sub, ab, col, dd, m0, m1, m2, m3, m5, xL, rv⟩, sa, eC, tC, kC⟩, nb, ⟨fI, _, a1, t1, fun_mk l1 c1 k1⟩, ⟨W, mc, PySem.W.mg_of X G aW, sW, rW, tW, vW⟩⟩
/-! ## sorted(a list of ints) -/
def rSo : Pr := fun cs M Q => match cs with
  | [c] => ∃ is : List Int, deref c M = some (.list (is.map PyData.int)) ∧ ∀ is' : List Int, is'.Perm is → is'.Pairwise (· ≤ ·) → Q (.r M.length) (M ++ [.live (is'.map PyData.int)])
  | _ => False
theorem xc_sorted {X : Cy} : YCl X (.builtin "sorted") rSo := ⟨_, cr_sortedI, fun cs M Qh h B as vs H Q S o q => by
  unfold rSo at h
  split at h
  · rename_i c
    obtain _ | ⟨o1, o2⟩ := o
    cases o2
    obtain ⟨is, ed, h⟩ := h
    obtain ⟨l, ws, rfl, hl, r⟩ := deref_list S o1 ed
    have ew := RpAll.ints r
    subst ew
    refine ⟨l, is, rfl, .inl (.inl hl), fun ns' p hp hs np => ?_⟩
    obtain ⟨S4, g4, e4⟩ := S.newL np (RpAll.ofInts (K := X.K) (H := B) ns')
    exact q _ _ _ _ _ _ (h ns' hp hs) g4 S4 ⟨p, e4, rfl⟩
  · cases h⟩
theorem perm_sorted_eq : ∀ {l1 l2 : List Int}, l1.Perm l2 → l1.Pairwise (· ≤ ·) → l2.Pairwise (· ≤ ·) → l1 = l2
  | [], l2, h, _, _ => (List.nil_perm.mp h).symm
  | a :: l1, [], h, _, _ => by have := h.length_eq; simp at this
  | a :: l1, b :: l2, h, h1, h2 => by
    have ha := List.pairwise_cons.mp h1
    have hb := List.pairwise_cons.mp h2
    have e : a = b := by
      have m1 : a ∈ b :: l2 := h.mem_iff.mp List.mem_cons_self
      have m2 : b ∈ a :: l1 := h.mem_iff.mpr List.mem_cons_self
      rcases List.mem_cons.mp m1 with z | z
      · exact z
      · rcases List.mem_cons.mp m2 with y | y
        · exact y.symm
        · have := hb.1 a z
          have := ha.1 b y
          omega
    subst e
    rw [perm_sorted_eq (List.Perm.cons_inv h) ha.2 hb.2]
theorem w_soS {c : Cell} {M : Mem} {Q : Qx} {is : List Int} (m : deref c M = some (.list (is.map PyData.int))) (hs : is.Pairwise (· ≤ ·)) (h : Q (.r M.length) (M ++ [.live (is.map PyData.int)])) : rSo [c] M Q :=
  ⟨is, m, fun is' hp h' => by rw [perm_sorted_eq hp h' hs]; exact h⟩
end Kt

set_option Elab.async false
set_option linter.all false
set_option maxRecDepth 100000
set_option maxHeartbeats 2000000
namespace Kt
open PySem PySem.Spec PyProof.Rows L2
/-! ## x in a tuple -/
def inR (neg : Bool) (K : PySem.W.Frag) : R2 := fun x y H Q => ∃ d ds, Dp K H x d ∧ Dp K H y (.tuple ds) ∧ SeqAt.shaped d = true ∧ SeqAt.shaped (.tuple ds) = true ∧ d.depth ≤ 40 ∧ Q (.bl (xor neg (ds.any fun z => PyData.eqv z d))) H
theorem op_inT {X : Cx} (hu : X.A.units + 64 < cLine) : OpR X (compareOp .In) (inR false X.K) := by
  intro pins s σ H x y v u Q I rx ry h
  obtain ⟨d, ds, hd, he, sd, se, dd, q⟩ := h
  obtain ⟨as, r1⟩ := Dp.reads I d x v hd rx
  obtain ⟨bs, r2⟩ := Dp.reads I (.tuple ds) y u he ry
  rw [Bool.false_xor] at q
  exact SeqAt.in_tuple_reads r2 r1 (by have := SeqAt.canLay_of_shaped se; simpa [PyData.canLay0] using this) (SeqAt.canLay_of_shaped sd) (by have : min (PyData.depthAll ds) d.depth ≤ d.depth := Nat.min_le_right _ _; omega) ⟨.bl _, H, I, rfl, q⟩
theorem op_notInT {X : Cx} (hu : X.A.units + 64 < cLine) : OpR X (compareOp .NotIn) (inR true X.K) := by
  intro pins s σ H x y v u Q I rx ry h
  obtain ⟨d, ds, hd, he, sd, se, dd, q⟩ := h
  obtain ⟨as, r1⟩ := Dp.reads I d x v hd rx
  obtain ⟨bs, r2⟩ := Dp.reads I (.tuple ds) y u he ry
  rw [Bool.true_xor] at q
  exact SeqAt.notIn_tuple_reads r2 r1 (by have := SeqAt.canLay_of_shaped se; simpa [PyData.canLay0] using this) (SeqAt.canLay_of_shaped sd) (by have : min (PyData.depthAll ds) d.depth ≤ d.depth := Nat.min_le_right _ _; omega) ⟨.bl _, H, I, rfl, q⟩
def pIn (neg : Bool) : Pr2 := fun x y M Q => match derefS x M, derefS y M with
  | some d, some (.tuple ds) => (Shd d (.tuple ds) ∧ d.depth ≤ 40) ∧ Q (.d (.bool (xor neg (ds.any fun z => PyData.eqv z d)))) M
  | _, _ => False
section
variable {X : Cy}
theorem xo_in {k : Nat} (hr : Room k X.A) : YOp X (compareOp .In) (pIn false) := by
  refine ⟨inR false X.K, op_inT hr.units, fun cx cy M Qh h B as x y H Q S ox oy q => ?_⟩
  unfold pIn at h
  split at h
  · rename_i d ds e1 e2
    exact ⟨d, ds, derefS_ok S ox e1 h.1.1.1, derefS_ok S oy e2 h.1.1.2, h.1.1.1, h.1.1.2, h.1.2, q _ M _ B as H h.2 S.gr S (.bl _)⟩
  · cases h
theorem xo_nin {k : Nat} (hr : Room k X.A) : YOp X (compareOp .NotIn) (pIn true) := by
  refine ⟨inR true X.K, op_notInT hr.units, fun cx cy M Qh h B as x y H Q S ox oy q => ?_⟩
  unfold pIn at h
  split at h
  · rename_i d ds e1 e2
    exact ⟨d, ds, derefS_ok S ox e1 h.1.1.1, derefS_ok S oy e2 h.1.1.2, h.1.1.1, h.1.1.2, h.1.2, q _ M _ B as H h.2 S.gr S (.bl _)⟩
  · cases h
end
theorem w_inT {neg : Bool} {x y : Cell} {M : Mem} {Q : Qx} {d : PyData} {ds : List PyData} (hx : derefS x M = some d) (hy : derefS y M = some (.tuple ds)) (s : Shd d (.tuple ds)) (dd : d.depth ≤ 40) {b : Bool} (e : (ds.any fun z => PyData.eqv z d) = b) (h : Q (.d (.bool (xor neg b))) M) : pIn neg x y M Q := by
  unfold pIn
  rw [hx, hy]
  subst e
  exact ⟨⟨s, dd⟩, h⟩
end Kt

set_option Elab.async false
set_option linter.all false
set_option maxRecDepth 100000
set_option maxHeartbeats 2000000
namespace Kt
open PySem PySem.Spec PyProof.Rows L2
/-! ## xs[::-1] of a list -/
def revQ (Q : Qx) (c : Cell) (M : Mem) : Prop := match deref c M with
  | some (.list xs) => Q (.r M.length) (M ++ [.live xs.reverse])
  | _ => False
def pRev (p : Px) : Px := fun ρ M Q => p ρ M fun c M1 => revQ Q c M1
theorem RpAll.rev {K : PySem.W.Frag} {H : Hp} : ∀ {vs : List V} {ds : List PyData}, RpAll K H vs ds → RpAll K H vs.reverse ds.reverse
  | _, _, .nil => .nil
  | _, _, .cons h r => by
    rw [List.reverse_cons, List.reverse_cons]
    exact (RpAll.rev r).append (.one h)
theorem xrev {X : Cy} {e : Expr} {p : Px} {k : Nat} {p1 p2 p3 pos : Pos} (h : YE X e p) : YE X (.Subscript e (.Slice none none (some (.UnaryOp .USub (.Constant (.int 1) k p1) p2)) p3) pos) (pRev p) := by
  obtain ⟨t, h1, h2⟩ := h
  refine ⟨_, pe_revL h1, fun ρ M Qh h B as σ H Q S L W0 q => h2 ρ M _ h B as σ H _ S L W0 fun c M1 v B1 as1 H1 h1 g1 S1 o1 => ?_⟩
  unfold revQ at h1
  split at h1
  · rename_i xs ed
    obtain ⟨l, ws, rfl, hl, r⟩ := deref_list S1 o1 ed
    refine ⟨l, ws, rfl, .inl (.inl hl), fun x nx => ?_⟩
    obtain ⟨S4, g4, e4⟩ := S1.newL nx r.rev
    exact q _ _ _ _ _ _ h1 (g1.trans g4) S4 ⟨x, e4, rfl⟩
  · cases h1
theorem w_rev {pe : Px} {ρ : Rho} {M : Mem} {Q : Qx} (h : pe ρ M fun c M1 => revQ Q c M1) : pRev pe ρ M Q := h
theorem w_revD {xs : List PyData} {M : Mem} {Q : Qx} (h : Q (.r M.length) (M ++ [.live xs.reverse])) : revQ Q (.d (.list xs)) M := h
/-! ## tuple(xs) -/
def rTp : Pr := fun cs M Q => match cs with
  | [c] => (match deref c M with
    | some (.list xs) => Q (.d (.tuple xs)) M
    | some (.tuple xs) => Q (.d (.tuple xs)) M
    | _ => False)
  | _ => False
theorem xc_tuple {X : Cy} : YCl X (.type "tuple") rTp := by
  refine ⟨_, call_tuple_of, fun cs M Qh h B as vs H Q S o q => ?_⟩
  unfold rTp at h
  split at h
  · rename_i c
    obtain _ | ⟨o1, _ | _⟩ := o
    split at h
    · rename_i xs e
      obtain ⟨l, ws, rfl, hl, r⟩ := deref_list S o1 e
      refine ⟨l, ws, rfl, .inl ⟨.inl (.inl hl), fun p np => ?_⟩⟩
      obtain ⟨S', g'⟩ := S.new (o := .tup ws) np
      have hB : B p = none := by
        cases q : B p with
        | none => rfl
        | some u =>
          have := S.sub p u q
          rw [np] at this
          cases this
      have sm : Same B (upd B p (.tup ws)) := fun b x e => by
        rw [upd_ne (ne_of_none e hB)]
        exact e
      exact q _ _ _ _ _ _ h g' S' (Rp.tup (.inl (.inl upd_same)) (r.mono sm))
    · rename_i xs e
      obtain ⟨l, ws, rfl, hl, r⟩ := deref_tuple S o1 e
      exact ⟨l, ws, rfl, .inr ⟨sqT_mono S.sub hl, q _ _ _ _ _ _ h S.gr S (Rp.tup hl r)⟩⟩
    · cases h
  · cases h
theorem w_tpD {xs : List PyData} {c : Cell} {M : Mem} {Q : Qx} (e : deref c M = some (.list xs)) (h : Q (.d (.tuple xs)) M) : rTp [c] M Q := by
  unfold rTp
  dsimp only
  rw [e]
  exact h
/-! ## a call within a try's body, its last argument left out -/
theorem y_cdBT {X : Cy} {pn : List (Addr × Obj)} {xe : Value → Shared → Prop} {W : WX} {Wh : Xc → Rho → Mem → Prop} {x : Str} {st : Stmt} {ps : List Str} {k : Nat} {g : Gs} {e : Expr} {es : List Expr} {pa : Pa} {p pos : Pos} (d : DefOkB X.prog X.w X.K X.mg X.base x st ps k g) (hp : (ps.length - 1) + (1 - 0) = ps.length) (b : bindsB x st ps) (hgu : X.A.guards = some []) (hr : Room k X.A) (gl : Gl X x) (tk : Takes (X.toCx.tr pn xe) W)
    (ha : YA (trY X pn xe W Wh) (e :: es) pa) (hdb : (x == ("__debug__" : Str)) = false := by decide) (he : starEach (e :: es) X.env = (false, eval e X.env) :: starEach es X.env := by rfl) (hpl : (backTo pos (starEach es X.env)).any (·.1) = false := by rfl) :
    YE (trY X pn xe W Wh) (.Call (.Name x p) (e :: es) [] pos) (pCall ps.length g Wh (pDef pa)) := y_cdB (X := trY X pn xe W Wh) d hp b hgu hr gl tk ha hdb he hpl
/-! ## data with texts and empty dicts that may be shown -/
theorem cps_ok (s : String) : ∀ c ∈ (PySem.Str.ofString s).cps.toList, c < 16 ^ 8 := fun c hc => by
  have e : (PySem.Str.ofString s).cps.toList = s.toList.map Char.toNat := cpsOfBytes_string s
  rw [e] at hc
  obtain ⟨z, _, rfl⟩ := List.mem_map.mp hc
  exact z.val.toNat_lt
theorem cps_len (s : String) : (PySem.Str.ofString s).cps.size = s.length := by
  have e : (PySem.Str.ofString s).cps.toList = s.toList.map Char.toNat := cpsOfBytes_string s
  rw [← Array.length_toList, e, List.length_map]
  rfl
structure Shx (n b : Nat) (d : PyData) : Prop where
  lay : dOk d = true
  dep : d.depth ≤ n
  sho : d.showable = true
  lvs : d.leavesShort 1921 = true
  blk : d.bulk ≤ b
theorem dOk_all : ∀ {xs : List PyData}, (∀ x ∈ xs, dOk x = true) → dOkAll xs = true
  | [], _ => by simp [dOkAll]
  | x :: xs, h => by
    simp only [dOkAll, Bool.and_eq_true]
    exact ⟨h x List.mem_cons_self, dOk_all fun y hy => h y (List.mem_cons_of_mem _ hy)⟩
theorem Shw.x {n b : Nat} {d : PyData} (h : Shw n b d) : Shx n b d := ⟨dOk_of_lay _ h.lay, h.dep, h.sho, h.lvs, h.blk⟩
theorem Shx.up {n b m c : Nat} {d : PyData} (h : Shx n b d) (h1 : n ≤ m) (h2 : b ≤ c) : Shx m c d := ⟨h.lay, Nat.le_trans h.dep h1, h.sho, h.lvs, Nat.le_trans h.blk h2⟩
theorem Shx.int {n b : Nat} {i : Int} (h : Sm0 i) : Shx n b (.int i) := (Shw.int h).x
theorem Shx.non {n b : Nat} : Shx n b .none := Shw.non.x
theorem Shx.bl {n b : Nat} {k : Bool} : Shx n b (.bool k) := Shw.bl.x
theorem Shx.emp {n b : Nat} : Shx (n + 1) b (.dict []) := ⟨rfl, by simp [PyData.depth, PyData.depthKv], by simp [PyData.showable, PyData.showableKv], by simp [PyData.leavesShort, PyData.leavesShortKv], by simp [PyData.bulk, PyData.bulkKv]⟩
theorem Shx.str {n b : Nat} (s : String) (h : (PySem.Str.ofString s).cps.size ≤ b) : Shx n b (.str (PySem.Str.ofString s)) :=
  ⟨by simp only [dOk], by simp [PyData.depth], by simp [PyData.showable], by simp only [PyData.leavesShort, List.all_eq_true, decide_eq_true_eq]; exact cps_ok s, by simpa only [PyData.bulk] using h⟩
theorem Shx.istr {n b : Nat} {i : Int} (h : i.natAbs.log2 < 1920) (hb : 1921 ≤ b) : Shx n b (.str (toString i)) := Shx.str _ (Nat.le_trans (int_text_len_1921 h) hb)
theorem Shx.istr' {n b : Nat} {i : Int} (h : -(10 ^ 40) < i ∧ i < 10 ^ 40) (hb : 41 ≤ b) : Shx n b (.str (toString i)) := Shx.str _ (Nat.le_trans (Nat.le_of_eq (cps_len _)) <| Nat.le_trans (int_text_length_le10 (k := 40) (by decide) (by omega)) hb)
theorem Shx.tup {n b c : Nat} {xs : List PyData} (h : ∀ x ∈ xs, Shx n b x) (hc : xs.length * (b + 1) ≤ c) : Shx (n + 1) c (.tuple xs) :=
  ⟨by simpa [dOk] using dOk_all fun x hx => (h x hx).lay, by simp only [PyData.depth]; exact Nat.succ_le_succ (dep_all fun x hx => (h x hx).dep),
    by simpa [PyData.showable] using sho_all fun x hx => (h x hx).sho, by simpa [PyData.leavesShort] using lvs_all fun x hx => (h x hx).lvs, by simp only [PyData.bulk]; exact Nat.le_trans (blk_all fun x hx => (h x hx).blk) hc⟩
theorem Shx.lst {n b c : Nat} {xs : List PyData} (h : ∀ x ∈ xs, Shx n b x) (hc : xs.length * (b + 1) ≤ c) : Shx (n + 1) c (.list xs) :=
  ⟨by simpa [dOk] using dOk_all fun x hx => (h x hx).lay, by simp only [PyData.depth]; exact Nat.succ_le_succ (dep_all fun x hx => (h x hx).dep),
    by simpa [PyData.showable] using sho_all fun x hx => (h x hx).sho, by simpa [PyData.leavesShort] using lvs_all fun x hx => (h x hx).lvs, by simp only [PyData.bulk]; exact Nat.le_trans (blk_all fun x hx => (h x hx).blk) hc⟩
theorem Shx.rp {n b : Nat} {d : PyData} (h : Shx n b d) (hn : n ≤ 40) (hb : b ≤ 8000) : reprOk d :=
  ⟨h.lay, h.sho, Nat.le_trans h.dep hn, by
    have h1 := PyData.shown_le_bulk 1921 (by decide) d h.lvs
    have h2 := h.blk
    rw [sizeLine_eq]
    omega⟩
theorem Shx.app {n b c d : Nat} {xs ys : List PyData} (h : ∀ x ∈ xs, Shx n b x) (h' : ∀ x ∈ ys, Shx n b x) (hx : xs.length ≤ c) (hy : ys.length ≤ d) {e : Nat} (he : (c + d) * (b + 1) ≤ e) : Shx (n + 1) e (.list (xs ++ ys)) :=
  .lst (fun x hx => (List.mem_append.mp hx).elim (h x) (h' x)) (by rw [List.length_append]; exact Nat.le_trans (Nat.mul_le_mul_right _ (Nat.add_le_add hx hy)) he)
theorem dOkAll_app : ∀ xs ys : List PyData, dOkAll (xs ++ ys) = (dOkAll xs && dOkAll ys)
  | [], ys => by simp [dOkAll]
  | x :: xs, ys => by simp only [List.cons_append, dOkAll, dOkAll_app xs ys, Bool.and_assoc]
theorem sho_app : ∀ xs ys : List PyData, PyData.showableAll (xs ++ ys) = (PyData.showableAll xs && PyData.showableAll ys)
  | [], ys => by simp [PyData.showableAll]
  | x :: xs, ys => by simp only [List.cons_append, PyData.showableAll, sho_app xs ys, Bool.and_assoc]
theorem lvs_app (B : Nat) : ∀ xs ys : List PyData, PyData.leavesShortAll B (xs ++ ys) = (PyData.leavesShortAll B xs && PyData.leavesShortAll B ys)
  | [], ys => by simp [PyData.leavesShortAll]
  | x :: xs, ys => by simp only [List.cons_append, PyData.leavesShortAll, lvs_app B xs ys, Bool.and_assoc]
theorem blk_app : ∀ xs ys : List PyData, PyData.bulkAll (xs ++ ys) = PyData.bulkAll xs + PyData.bulkAll ys
  | [], ys => by simp [PyData.bulkAll]
  | x :: xs, ys => by simp only [List.cons_append, PyData.bulkAll, blk_app xs ys, Nat.add_assoc]
theorem dep_app : ∀ xs ys : List PyData, PyData.depthAll (xs ++ ys) = max (PyData.depthAll xs) (PyData.depthAll ys)
  | [], ys => by simp [PyData.depthAll]
  | x :: xs, ys => by simp only [List.cons_append, PyData.depthAll, dep_app xs ys]; omega
theorem Shx.cat {n b c d : Nat} {xs ys : List PyData} (h : Shx n b (.list xs)) (h' : Shx n c (.list ys)) (hd : b + c ≤ d) : Shx n d (.list (xs ++ ys)) := by
  obtain ⟨a1, a2, a3, a4, a5⟩ := h
  obtain ⟨b1, b2, b3, b4, b5⟩ := h'
  simp only [dOk, PyData.depth, PyData.showable, PyData.leavesShort, PyData.bulk] at a1 a2 a3 a4 a5 b1 b2 b3 b4 b5
  refine ⟨?_, ?_, ?_, ?_, ?_⟩
  · simp only [dOk, dOkAll_app, a1, b1, Bool.and_self]
  · simp only [PyData.depth, dep_app]
    omega
  · simp only [PyData.showable, sho_app, a3, b3, Bool.and_self]
  · simp only [PyData.leavesShort, lvs_app, a4, b4, Bool.and_self]
  · simp only [PyData.bulk, blk_app]
    omega
end Kt

set_option Elab.async false
set_option linter.all false
set_option maxRecDepth 100000
set_option maxHeartbeats 2000000
namespace Kt
open PySem PySem.Spec PyProof.Rows L2
/-! ## memory by facts: what is seen of a cell stays as it is -/
def Lz (M : Mem) (k : Nat) (xs : List PyData) : Prop := M[k]? = some (.live xs) ∨ M[k]? = some (.fz xs)
def Sees (M : Mem) (c : Cell) (x : PyData) : Prop := c = .d x ∨ ∃ k xs, c = .r k ∧ x = .list xs ∧ Lz M k xs
structure Ge (M M' : Mem) : Prop where
  len : M.length ≤ M'.length
  get : ∀ k xs, Lz M k xs → Lz M' k xs
inductive SeesAll (M : Mem) : List Cell → List PyData → Prop
  | nil : SeesAll M [] []
  | cons {c : Cell} {x : PyData} {cs : List Cell} {xs : List PyData} (h : Sees M c x) (r : SeesAll M cs xs) : SeesAll M (c :: cs) (x :: xs)
section
variable {M M' M'' L : Mem} {k n : Nat} {xs ys : List PyData} {c : Cell} {x : PyData} {cs : List Cell}
theorem Lz.lt (h : Lz M k xs) : k < M.length := by rcases h with h | h <;> exact (List.getElem?_eq_some_iff.mp h).1
theorem Lz.live (h : M[k]? = some (.live xs)) : Lz M k xs := .inl h
theorem Lz.app (h : Lz M k xs) : Lz (M ++ L) k xs := by
  have := h.lt
  unfold Lz
  rw [List.getElem?_append_left this]
  exact h
theorem Lz.new : Lz (M ++ [.live xs]) M.length xs := .inl List.getElem?_concat_length
theorem Lz.set {z : MC} (h : Lz M k xs) (hn : n ≠ k) : Lz (M.set n z) k xs := by
  unfold Lz
  rw [List.getElem?_set_ne hn]
  exact h
theorem Ge.refl : Ge M M := ⟨Nat.le_refl _, fun _ _ h => h⟩
theorem Ge.trans (g : Ge M M') (g' : Ge M' M'') : Ge M M'' := ⟨Nat.le_trans g.len g'.len, fun k xs h => g'.get k xs (g.get k xs h)⟩
theorem Ge.app : Ge M (M ++ L) := ⟨by rw [List.length_append]; omega, fun k xs h => h.app⟩
theorem Ge.fz (h : M[n]? = some (.live xs)) : Ge M (M.set n (.fz xs)) := ⟨by rw [List.length_set]; exact Nat.le_refl _, fun k ys hk => by
  by_cases e : n = k
  · subst e
    have e2 : xs = ys := by
      rcases hk with hk | hk
      · rw [h] at hk; cases hk; rfl
      · rw [h] at hk; cases hk
    subst e2
    exact .inr (List.getElem?_set_self (List.getElem?_eq_some_iff.mp h).1)
  · exact hk.set e⟩
theorem Sees.d : Sees M (.d x) x := .inl rfl
theorem Sees.r (h : Lz M k xs) : Sees M (.r k) (.list xs) := .inr ⟨k, xs, rfl, rfl, h⟩
theorem Sees.ge (g : Ge M M') (h : Sees M c x) : Sees M' c x := by
  rcases h with rfl | ⟨k, xs, rfl, rfl, h⟩
  · exact .inl rfl
  · exact .inr ⟨k, xs, rfl, rfl, g.get k xs h⟩
theorem Sees.deref (h : Sees M c x) : deref c M = some x := by
  rcases h with rfl | ⟨k, xs, rfl, rfl, h⟩
  · rfl
  · unfold Kt.deref
    dsimp only
    rcases h with h | h <;> rw [h]
theorem SeesAll.ge (g : Ge M M') (h : SeesAll M cs xs) : SeesAll M' cs xs := by
  induction h with
  | nil => exact .nil
  | cons h r ih => exact .cons (h.ge g) ih
theorem SeesAll.len (h : SeesAll M cs xs) : cs.length = xs.length := by
  induction h with
  | nil => rfl
  | cons h r ih => exact congrArg (· + 1) ih
/-- all but k of what stands there stays -/
structure Fz (M M' : Mem) (cs : List Cell) : Prop where
  ge : Ge M M'
  len : M'.length = M.length
  out : ∀ k, (∀ c ∈ cs, c ≠ .r k) → M'[k]? = M[k]?
theorem asD_f (h : Sees M c x) : ∃ M', asD c M = some (x, M') ∧ Fz M M' [c] := by
  rcases h with rfl | ⟨k, xs, rfl, rfl, h⟩
  · exact ⟨M, rfl, .refl, rfl, fun _ _ => rfl⟩
  · rcases h with h | h
    · refine ⟨M.set k (.fz xs), ?_, .fz h, by rw [List.length_set], fun j hj => List.getElem?_set_ne fun e => hj _ List.mem_cons_self (by rw [e])⟩
      unfold asD
      dsimp only
      rw [h]
    · refine ⟨M, ?_, .refl, rfl, fun _ _ => rfl⟩
      unfold asD
      dsimp only
      rw [h]
theorem asDs_f : ∀ {M : Mem} {cs : List Cell} {xs : List PyData}, SeesAll M cs xs → ∃ M', asDs cs M = some (xs, M') ∧ Fz M M' cs
  | M, _, _, .nil => ⟨M, rfl, .refl, rfl, fun _ _ => rfl⟩
  | M, c :: cs, x :: xs, .cons h r => by
    obtain ⟨M1, e1, f1⟩ := asD_f h
    obtain ⟨M2, e2, f2⟩ := asDs_f (r.ge f1.ge)
    refine ⟨M2, ?_, f1.ge.trans f2.ge, f2.len.trans f1.len, fun k hk => (f2.out k fun c hc => hk c (List.mem_cons_of_mem _ hc)).trans (f1.out k fun c hc => hk c (by rw [List.mem_singleton.mp hc]; exact List.mem_cons_self))⟩
    unfold asDs
    rw [e1]
    dsimp only
    rw [e2]
theorem cellC_f (h : Sees M c x) : ∃ M', cellC c M = some (.d x, M') ∧ Fz M M' [c] := by
  obtain ⟨M', e, f⟩ := asD_f h
  refine ⟨M', ?_, f⟩
  cases c with
  | s _ => rcases h with h | ⟨_, _, h, _⟩ <;> cases h
  | t _ _ => rcases h with h | ⟨_, _, h, _⟩ <;> cases h
  | a _ => rcases h with h | ⟨_, _, h, _⟩ <;> cases h
  | d _ => simp only [cellC, e]
  | r _ => simp only [cellC, e]
theorem cellsC_f : ∀ {M : Mem} {cs : List Cell} {xs : List PyData}, SeesAll M cs xs → ∃ M', cellsC cs M = some (xs.map Cell.d, M') ∧ Fz M M' cs
  | M, _, _, .nil => ⟨M, rfl, .refl, rfl, fun _ _ => rfl⟩
  | M, c :: cs, x :: xs, .cons h r => by
    obtain ⟨M1, e1, f1⟩ := cellC_f h
    obtain ⟨M2, e2, f2⟩ := cellsC_f (r.ge f1.ge)
    refine ⟨M2, ?_, f1.ge.trans f2.ge, f2.len.trans f1.len, fun k hk => (f2.out k fun c hc => hk c (List.mem_cons_of_mem _ hc)).trans (f1.out k fun c hc => hk c (by rw [List.mem_singleton.mp hc]; exact List.mem_cons_self))⟩
    unfold cellsC
    rw [e1]
    dsimp only
    rw [e2]
    rfl
variable {Q : Qx} {ρ : Rho} {Wh : Xc → Rho → Mem → Prop} {kk : Nat} {g : Gs}
theorem w_lsF (e : SeesAll M cs xs) (hl : xs.length ≤ sizeLine) (h : ∀ M', Fz M M' cs → Q (.r M'.length) (M' ++ [.live xs])) : lsQ Q cs M := by
  obtain ⟨M', e1, f⟩ := asDs_f e
  exact w_lsQ e1 hl (h M' f)
theorem w_tuF (e : SeesAll M cs xs) (hl : xs.length ≤ sizeLine) (h : ∀ M', Fz M M' cs → Q (.d (.tuple xs)) M') : tuQ Q cs M := by
  obtain ⟨M', e1, f⟩ := asDs_f e
  exact w_tuQ e1 hl (h M' f)
theorem w_apF {R : Mem → Prop} (e : Sees M c x) (hn : M[n]? = some (.live xs)) (hc : c ≠ .r n) (hl : xs.length < sizeLine) (h : ∀ M', Fz M M' [c] → M'[n]? = some (.live xs) → R (M'.set n (.live (xs ++ [x])))) : apQ R (.r n) c M := by
  obtain ⟨M', e1, f⟩ := asD_f e
  have hn' : M'[n]? = some (.live xs) := by rw [f.out n fun c' hc' => by rw [List.mem_singleton.mp hc']; exact hc]; exact hn
  exact w_apQ e1 hn' hl (h M' f hn')
theorem w_gcF (hk : cs.length = kk) (e : SeesAll M cs xs) (h : ∀ M', Fz M M' cs → g (xs.map Cell.d) [] (back Q M') fun x _ => Wh x ρ M') : gCall kk g Wh ρ Q cs M := by
  obtain ⟨M', e1, f⟩ := cellsC_f e
  exact w_gcall hk e1 (h M' f)
theorem w_gcRF {rest : List Cell} (hn : rest.length + 1 = kk) (e : SeesAll M rest ys) (hm : M[n]? = some (.live xs)) (hr : ∀ c ∈ rest, c ≠ .r n)
    (h : ∀ M', Fz M M' rest → M'[n]? = some (.live xs) → g (.r 0 :: ys.map Cell.d) [.live xs] (backR Q n M') fun x Ml => match Ml with
      | .live zs :: _ => Wh x ρ (M'.set n (.live zs))
      | _ => False) : gCallR kk g Wh ρ Q (.r n :: rest) M := by
  obtain ⟨M', e1, f⟩ := cellsC_f e
  have hm' : M'[n]? = some (.live xs) := by rw [f.out n hr]; exact hm
  exact w_gcallR hn e1 hm' (h M' f hm')
theorem w_lnF (e : Sees M c (.list xs)) (h : Q (.d (.int xs.length)) M) : rLn [c] M Q := by
  have := e.deref
  unfold rLn
  cases c <;> first | (cases this; done) | (dsimp only; rw [this]; exact h)
theorem asL_f (e : Sees M c (.list xs)) : ∃ M', asL c M = some (xs, M') ∧ Fz M M' [c] := by
  obtain ⟨M', e1, f⟩ := asD_f e
  refine ⟨M', ?_, f⟩
  unfold asL
  rw [e1]
theorem w_slF {lo hi : Option Int} (e : Sees M c (.list xs)) (h : Q (.r M.length) (M ++ [.live (cutD xs lo hi)])) : slQ Q c lo hi M := by
  unfold slQ
  rw [e.deref]
  exact h
theorem w_adF {d : Cell} (e : Sees M c (.list xs)) (e' : Sees M d (.list ys)) (hl : xs.length + ys.length ≤ sizeLine) (h : Q (.r M.length) (M ++ [.live (xs ++ ys)])) : pAdd c d M Q := by
  unfold pAdd
  rw [e.deref, e'.deref]
  exact ⟨hl, h⟩
theorem w_iQF {R : List PyData → Mem → Prop} (e : Sees M c (.list xs)) (h : ∀ M', Fz M M' [c] → R xs M') : iQL R c M := by
  obtain ⟨M', e1, f⟩ := asL_f e
  unfold iQL
  rw [e1]
  exact h M' f
theorem w_ixF {i : Int} (P : PyData → Prop) (e : Sees M c (.list xs)) (h0 : 0 ≤ i) (h1 : i < xs.length) (hp : ∀ x ∈ xs, P x) (h : ∀ x, P x → Q (.d x) M) : pIx c (.d (.int i)) M Q := by
  obtain ⟨x, e1, e2⟩ := atI_nat h0 h1
  have hx := h x (hp x (List.mem_of_getElem? e2))
  rcases e with rfl | ⟨k, ys, rfl, e3, hl⟩
  · exact w_ixl e1 hx
  · cases e3
    exact w_ixr (Sees.r hl).deref e1 hx
theorem Fz.sees {cs : List Cell} (f : Fz M M' cs) (h : Sees M c x) : Sees M' c x := h.ge f.ge
theorem Sees.new : Sees (M ++ [.live xs]) (.r M.length) (.list xs) := .r .new
theorem Sees.app (h : Sees M c x) : Sees (M ++ L) c x := h.ge .app
end
theorem w_revF {M : Mem} {Q : Qx} {c : Cell} {xs : List PyData} (e : Sees M c (.list xs)) (h : Q (.r M.length) (M ++ [.live xs.reverse])) : revQ Q c M := by
  unfold revQ
  rw [e.deref]
  exact h
theorem w_kDF {K : PyData → Mem → Prop} {M : Mem} {c : Cell} {x : PyData} (e : Sees M c x) (h : ∀ M', Fz M M' [c] → K x M') : kD K c M := by
  obtain ⟨M', e1, f⟩ := asD_f e
  unfold kD
  rw [e1]
  exact h M' f
theorem runC_invD {g : Pg} {pe : Px} {ρ : Rho} {Q : Qx} {xs : List PyData} {M : Mem} (I : Nat → List PyData → Mem → Prop) (h0 : I 0 [] M) (hs : ∀ (i : Nat) (x : PyData) (acc : List PyData) (M : Mem) (N : List PyData → Mem → Prop), xs[i]? = some x → I i acc M → (∀ acc' M', I (i + 1) acc' M' → N acc' M') →
    g (.d x) ρ M fun ρ2 M2 => pe ρ2 M2 fun c M4 => kD (fun d M5 => acc.length < sizeLine ∧ N (acc ++ [d]) M5) c M4) (hd : ∀ acc M, I xs.length acc M → Q (.r M.length) (M ++ [.live acc])) : runC g pYes pe ρ Q xs [] M := by
  refine runC_inv I h0 (fun i x acc M N hx hI hN => ?_) hd
  have e : (fun (ρ2 : Rho) (M2 : Mem) => pYes ρ2 M2 fun b M3 => (b = true → pe ρ2 M3 fun c M4 => kD (fun d M5 => acc.length < sizeLine ∧ N (acc ++ [d]) M5) c M4) ∧ (b = false → N acc M3)) = fun ρ2 M2 => pe ρ2 M2 fun c M4 => kD (fun d M5 => acc.length < sizeLine ∧ N (acc ++ [d]) M5) c M4 := by
    funext ρ2 M2
    refine propext ⟨fun h => h.1 rfl, fun h => ⟨fun _ => h, nofun⟩⟩
  exact Eq.mpr (congrArg (g (.d x) ρ M) e) (hs i x acc M N hx hI hN)
theorem runC_invT {g : Pg} {pt : Pt} {pe : Px} {ρ : Rho} {Q : Qx} {xs : List PyData} {M : Mem} (I : Nat → List PyData → Mem → Prop) (h0 : I 0 [] M) (hs : ∀ (i : Nat) (x : PyData) (acc : List PyData) (M : Mem) (N : List PyData → Mem → Prop), xs[i]? = some x → I i acc M → (∀ acc' M', I (i + 1) acc' M' → N acc' M') →
    g (.d x) ρ M fun ρ2 M2 => pt ρ2 M2 fun b M3 => (b = true → pe ρ2 M3 fun c M4 => kD (fun d M5 => acc.length < sizeLine ∧ N (acc ++ [d]) M5) c M4) ∧ (b = false → N acc M3)) (hd : ∀ acc M, I xs.length acc M → Q (.r M.length) (M ++ [.live acc])) : runC g pt pe ρ Q xs [] M :=
  runC_inv I h0 hs hd
end Kt

set_option Elab.async false
set_option linter.all false
set_option maxRecDepth 100000
set_option maxHeartbeats 2000000
namespace Kt
open PySem PySem.Spec PyProof.Rows L2
/-! ## sorted(xs), xs a list of tuples of ints, any length -/
abbrev RowI := Int × List Int
def rowD (b : RowI) : PyData := .tuple (.int b.1 :: b.2.map .int)
def rowLe : RowI → RowI → Bool := PySem.W.dataLe false rowD
open PySem.W in
def rSoTR (K : PySem.W.Frag) : List V → Hp → VK → Prop := fun vs H Q => ∃ (l : Addr) (ws : List V) (bs : List RowI) (P : V → RowI → Prop), vs = [.ref l] ∧ H l = some (.lst ws) ∧ EachIs P ws bs ∧ DpAll K H ws (bs.map rowD) ∧
  ∀ ys p, EachIs P ys (bs.mergeSort rowLe) → H p = none → Q (.ref p) (upd H p (.lst ys))
theorem row_depth (b : RowI) : (rowD b).depth ≤ 1 := by
  unfold rowD
  simp only [PyData.depth]
  have := PySem.W.depth_ints (b.1 :: b.2)
  rw [List.map_cons] at this
  omega
theorem row_alike (b b' : RowI) : PySem.W.alike (rowD b) (rowD b') = true := by
  unfold rowD
  simp only [PySem.W.alike]
  exact PySem.W.alike_ints (b.1 :: b.2) (b'.1 :: b'.2)
section
variable {K : PySem.W.Frag} {H : Hp}
open PySem.W in
theorem each_vals {P : V → RowI → Prop} : ∀ {ws : List V} {its : List Value} {bs : List RowI}, Vals ws its → EachIs P ws bs → EachIs (fun v b => ∃ x, RelV x v ∧ P x b) its bs
  | _, _, _, .nil, .nil => .nil
  | _, _, _, .cons r t, .cons h k => .cons ⟨_, r, h⟩ (each_vals t k)
open PySem.W in
theorem each_back {P : V → RowI → Prop} : ∀ {out : List Value} {bs : List RowI}, EachIs (fun v b => ∃ x, RelV x v ∧ P x b) out bs → ∃ ys, Vals ys out ∧ EachIs P ys bs
  | _, _, .nil => ⟨[], .nil, .nil⟩
  | _, _, .cons ⟨x, r, h⟩ t => let ⟨ys, h1, h2⟩ := each_back t; ⟨x :: ys, .cons r h1, .cons h h2⟩
open PySem.W in
theorem each_rp {B : Hp} : ∀ {ws : List V} {bs : List RowI}, RpAll K B ws (bs.map rowD) → EachIs (fun x b => Rp K B x (rowD b)) ws bs
  | _, [], .nil => .nil
  | _, _ :: _, .cons h t => .cons h (each_rp t)
open PySem.W in
theorem rp_each {B : Hp} : ∀ {ws : List V} {bs : List RowI}, EachIs (fun x b => Rp K B x (rowD b)) ws bs → RpAll K B ws (bs.map rowD)
  | _, _, .nil => .nil
  | _, _, .cons h t => .cons h (rp_each t)
theorem row_lay (b : RowI) : (rowD b).canLay0 = true := by
  unfold rowD
  simp only [PyData.canLay0]
  have : ∀ l : List Int, PyData.canLayAll0 (l.map .int) = true := fun l => by
    induction l with
    | nil => simp [PyData.canLayAll0]
    | cons x r ih => simp only [List.map_cons, PyData.canLayAll0, PyData.canLay0, ih, Bool.and_self]
  exact this (b.1 :: b.2)
end
theorem call_sortT {X : Cx} {k : Nat} (room : Room k X.A) : CallR X (.builtin "sorted") (rSoTR X.K) := by
  intro pins s σ H vs us Q I r h
  obtain ⟨l, ws, bs, P, rfl, hl, hP, hd, q⟩ := h
  obtain ⟨its, rv, hli, hz⟩ := I.list (.inl (.inl hl))
  rw [Vals.ref1 r]
  obtain ⟨as, hr⟩ := Dp.readsAll I _ _ its hd rv
  have hu := room.units
  refine PySem.W.sorted_data (enc := rowD) hli.isList (each_vals rv hP) (PySem.W.readsAll_each rowD hr) (PySem.W.AllAlike.of row_alike) (PySem.W.Sortable.tuples fun b => ⟨_, _, rfl⟩) (by rw [← hP.length]; exact hz) (fun b _ => by have := row_depth b; omega) fun out hout ho => ?_
  obtain ⟨ys, h1, h2⟩ := each_back ho
  obtain ⟨n, hat⟩ := PyProof.Rows.sortedAll_at s.heap its out.toArray
  refine ⟨.ref (s.heap.objs.size + 1), upd H (s.heap.objs.size + 1) (.lst ys), I.laid (t' := s.toks) (fun b o e => PyProof.Rows.sortedAll_old e) (Nat.le_succ _) ⟨?_, out, n, h1, hat⟩, rfl, q ys _ h2 (I.hok.fresh (Nat.le_succ _))⟩
  rw [h1.length, hout, ← hP.length]
  exact hz
def rSoT : Pr := fun cs M Q => match cs with
  | [c] => ∃ bs : List RowI, deref c M = some (.list (bs.map rowD)) ∧ Q (.r M.length) (M ++ [.live ((bs.mergeSort rowLe).map rowD)])
  | _ => False
theorem xc_sortT {X : Cy} {k : Nat} (room : Room k X.A) : YCl X (.builtin "sorted") rSoT := ⟨_, call_sortT room, fun cs M Qh h B as vs H Q S o q => by
  unfold rSoT at h
  split at h
  · rename_i c
    obtain _ | ⟨o1, _ | _⟩ := o
    obtain ⟨bs, e, h⟩ := h
    obtain ⟨l, ws, rfl, hl, r⟩ := deref_list S o1 e
    refine ⟨l, ws, bs, fun x b => Rp X.K B x (rowD b), rfl, hl, each_rp r, ?_, fun ys p hy np => ?_⟩
    · refine (r.mono S.sub).dp (lay_all fun x hx => ?_)
      obtain ⟨b, _, rfl⟩ := List.mem_map.mp hx
      exact row_lay b
    · obtain ⟨S', g', e'⟩ := S.newL np (rp_each hy)
      exact q _ _ _ _ _ _ h g' S' ⟨p, e', rfl⟩
  · cases h⟩
theorem w_soT {c : Cell} {M : Mem} {Q : Qx} (bs : List RowI) (e : deref c M = some (.list (bs.map rowD))) (h : Q (.r M.length) (M ++ [.live ((bs.mergeSort rowLe).map rowD)])) : rSoT [c] M Q := ⟨bs, e, h⟩
end Kt

set_option Elab.async false
set_option linter.all false
set_option maxRecDepth 100000
set_option maxHeartbeats 2000000
namespace Kt
open PySem PySem.Spec PyProof.Rows L2
/-! ## comprehensions with two clauses -/
def runD (g1 : Pg) (pt1 : Pt) (pe : Px) (ρ2 : Rho) (N : List PyData → Mem → Prop) : List PyData → List PyData → Mem → Prop
  | [], acc, M => N acc M
  | y :: ys, acc, M => g1 (.d y) ρ2 M fun ρ3 M2 => pt1 ρ3 M2 fun b M3 => (b = true → pe ρ3 M3 fun c M4 => kD (fun d M5 => acc.length < sizeLine ∧ runD g1 pt1 pe ρ2 N ys (acc ++ [d]) M5) c M4) ∧ (b = false → runD g1 pt1 pe ρ2 N ys acc M3)
def runC2 (g : Pg) (pt : Pt) (pi1 : Pi) (g1 : Pg) (pt1 : Pt) (pe : Px) (vs1 : List Nat) (ρ : Rho) (Q : Qx) : List PyData → List PyData → Mem → Prop
  | [], acc, M => Q (.r M.length) (M ++ [.live acc])
  | x :: xs, acc, M => g (.d x) ρ M fun ρ2 M2 => pt ρ2 M2 fun b M3 => (b = true → pi1 ρ2 M3 fun ys M4 => runD g1 pt1 pe (wipeR ρ2 vs1) (fun acc' M5 => runC2 g pt pi1 g1 pt1 pe vs1 ρ Q xs acc' M5) ys acc M4) ∧ (b = false → runC2 g pt pi1 g1 pt1 pe vs1 ρ Q xs acc M3)
def pLc2 (pi : Pi) (g : Pg) (pt : Pt) (pi1 : Pi) (g1 : Pg) (pt1 : Pt) (pe : Px) (vs vs1 : List Nat) : Px := fun ρ M Q => pi ρ M fun xs M1 => runC2 g pt pi1 g1 pt1 pe vs1 (wipeR ρ vs) Q xs [] M1
def canI (Z : Wi) (p : Pi) : TI := fun σ H R => ∃ ρ M Qh B as, p ρ M Qh ∧ Sat Z.K M B as H ∧ Slots Z.K B as ρ σ ∧ ExOk Z B as H ∧ ∀ xs M' B' as' H' J, Qh xs M' → Gr B as H B' as' H' → Sat Z.K M' B' as' H' → Runs Z.K J B' as' H' xs → R J H'
theorem can_i {X : Cy} {tg e : Expr} {p : Pi} (h : YI X tg e p) : PI X tg e (canI X.z p) := let ⟨t, h1, h2⟩ := h; ⟨fun pins s σ H R I ⟨ρ, M, Qh, B, as, hp, S, L, W0, q⟩ => h1.run pins s σ H R I (h2 ρ M Qh hp B as σ H R S L W0 q)⟩
/-- the state between two turns: the list that is made stands beside -/
def Bsd (Z : Wi) (D : Addr) (B1 : Hp) (as1 : List Addr) (H1 : Hp) (N : List PyData → Mem → Prop) (H' : Hp) : Prop :=
  ∃ acc accV M' B' as', N acc M' ∧ Gr B1 as1 H1 B' as' H' ∧ Sat Z.K M' B' as' H' ∧ D ∉ as' ∧ B' D = none ∧ H' D = some (.lst accV) ∧ RpAll Z.K B' accV acc
def Bsd2 (Z : Wi) (D : Addr) (B1 : Hp) (as1 : List Addr) (H1 B5 : Hp) (as5 : List Addr) (N : List PyData → Mem → Prop) (H' : Hp) : Prop :=
  ∃ acc accV M' B' as', N acc M' ∧ Gr B1 as1 H1 B' as' H' ∧ Sat Z.K M' B' as' H' ∧ D ∉ as' ∧ B' D = none ∧ H' D = some (.lst accV) ∧ RpAll Z.K B' accV acc ∧ Same B5 B' ∧ ∃ t, as' = as5 ++ t
theorem Slots.wide {K : PySem.W.Frag} {B B' : Hp} {as as' : List Addr} {ρ : Rho} {σ : L2.St} (h : Slots K B as ρ σ) (b : Same B B') (a : ∃ t, as' = as ++ t) : Slots K B' as' ρ σ := ⟨h.len, fun i c e => by
  obtain ⟨v, h1, h2⟩ := h.at_ i c e
  refine ⟨v, h1, ?_⟩
  cases c with
  | d x => exact Rp.mono b h2
  | r n =>
    obtain ⟨l, h3, h4⟩ := h2
    obtain ⟨t, rfl⟩ := a
    exact ⟨l, by rw [List.getElem?_append_left (List.getElem?_eq_some_iff.mp h3).1]; exact h3, h4⟩
  | s ns =>
    obtain ⟨a, h3, h4⟩ := h2
    exact ⟨a, h3, b.seq h4⟩
  | t x n =>
    obtain ⟨c, u, l, h3, h4, h5, h6⟩ := h2
    obtain ⟨t, rfl⟩ := a
    exact ⟨c, u, l, h3, sqT_mono b h4, Rp.mono b h5, by rw [List.getElem?_append_left (List.getElem?_eq_some_iff.mp h6).1]; exact h6⟩
  | a l => exact h2⟩
theorem sim_lc2 {Z Zi : Wi} {wi wi1 : TI} {pi pi1 : Pi} {tg tg1 : TG} {g g1 : Pg} {tt tt1 : TT} {pt pt1 : Pt} {te : TE} {pe : Px} {vs vs1 : List Nat} (hK : Zi.K = Z.K) (hW : ∀ x ρ M, ¬ Zi.Wh x ρ M) (h1 : SimI Z wi pi) (h2 : SimGw vs Zi tg g) (h3 : SimT Zi tt pt) (h5 : SimI Zi wi1 pi1) (h6 : SimGw vs1 Zi tg1 g1) (h7 : SimT Zi tt1 pt1) (h4 : Sim Zi te pe) :
    Sim Z (tLc2 wi tg tt wi1 tg1 tt1 te vs vs1) (pLc2 pi g pt pi1 g1 pt1 pe vs vs1) := fun ρ M Qh h B as σ H Q S L W0 q =>
  h1 ρ M _ h B as σ H _ S L W0 fun xs M1 B1 as1 H1 J hr gr1 S1 R => by
    have noX : ∀ B as H, ExOk Zi B as H := fun B as H => ⟨fun x ρ M _ _ _ _ _ h => absurd h (hW x ρ M)⟩
    intro D hD
    have D1 : D ∉ as1 := fun z => S1.free D z hD
    have b1 : B1 D = none := by
      cases e : B1 D with
      | none => rfl
      | some o =>
        have := S1.sub D o e
        rw [hD] at this
        cases this
    let RC := fun (xs : List PyData) (acc : List PyData) (M : Mem) => runC2 g pt pi1 g1 pt1 pe vs1 (wipeR ρ vs) Qh xs acc M
    refine ⟨fun i m H' => m = xs.length - i ∧ i ≤ xs.length ∧ Bsd Z D B1 as1 H1 (RC (xs.drop i)) H',
      ⟨xs.length, by simp, Nat.zero_le _, [], [], M1, B1, as1, hr, S1.gr.beside hD D1, S1.beside D1 b1, D1, b1, upd_same, .nil⟩, ?_⟩
    rintro i m H' ⟨rfl, hi, acc, accV, M', B', as', hr', g', S', Da, Db, Dh, ra⟩
    by_cases hlt : i < xs.length
    · have ex : xs[i]? = some xs[i] := List.getElem?_eq_getElem hlt
      obtain ⟨go, yl⟩ := R.turn i _ M' B' as' H' ex g'.b S'
      rw [List.drop_eq_getElem_cons hlt] at hr'
      refine .inr ⟨go, fun H2 => i + 1 ≤ xs.length ∧ Bsd Z D B1 as1 H1 (RC (xs.drop (i + 1))) H2, fun H2 z => ⟨xs.length - (i + 1), by omega, rfl, z⟩, fun v H2 y => ?_⟩
      obtain ⟨B2, S2, g2, r2⟩ := yl v H2 y
      rw [← hK] at S2 r2
      have L2' : Slots Zi.K B2 as' (wipeR ρ vs) (wipe σ vs) := by
        rw [hK]
        exact (((L.mono gr1).mono g').mono g2).wipe vs
      refine h2 (.d xs[i]) (wipeR ρ vs) M' _ hr' B2 as' v (wipe σ vs) H2 _ S2 L2' r2 fun ρ3 M3 B3 as3 σ3 H3 h3' g3 S3 L3 w3 => ⟨w3.trans wipe_idem, ?_⟩
      refine h3 ρ3 M3 _ h3' B3 as3 σ3 H3 _ S3 L3 (noX _ _ _) fun b M4 B4 as4 H4 h4' g4 S4 => ?_
      have gt := (g2.trans g3).trans g4
      cases b with
      | false =>
        obtain ⟨s1, s2, s3⟩ := gt.side Da Db Dh
        rw [hK] at S4
        exact ⟨hlt, acc, accV, M4, B4, as4, h4'.2 rfl, g'.trans gt, S4, s1, s2, s3, ra.mono gt.b⟩
      | true =>
        show wi1 σ3 H4 _
        refine h5 ρ3 M4 _ (h4'.1 rfl) B4 as4 σ3 H4 _ S4 (L3.mono g4) (noX _ _ _) fun ys M5 B5 as5 H5 J1 hr5 g5 S5 R5 => ?_
        have gA := gt.trans g5
        obtain ⟨s1, s2, s3⟩ := gA.side Da Db Dh
        have L5 : Slots Zi.K B5 as5 (wipeR ρ3 vs1) (wipe σ3 vs1) := ((L3.mono g4).mono g5).wipe vs1
        rw [hK] at S5
        let RD := fun (ys : List PyData) (acc : List PyData) (M : Mem) => runD g1 pt1 pe (wipeR ρ3 vs1) (fun acc' M5 => RC (xs.drop (i + 1)) acc' M5) ys acc M
        refine ⟨fun j k H' => k = ys.length - j ∧ j ≤ ys.length ∧ Bsd2 Z D B1 as1 H1 B5 as5 (RD (ys.drop j)) H', ⟨ys.length, by simp, Nat.zero_le _, acc, accV, M5, B5, as5, hr5, g'.trans gA, S5, s1, s2, s3, ra.mono gA.b, Same.refl _, [], by simp⟩, ?_⟩
        rintro j k H' ⟨rfl, hj, acc, accV, M', B', as', hq, g', S', Da, Db, Dh, ra, sm, pf⟩
        by_cases hlt1 : j < ys.length
        · have ey : ys[j]? = some ys[j] := List.getElem?_eq_getElem hlt1
          obtain ⟨go1, yl1⟩ := R5.turn j _ M' B' as' H' ey sm (hK ▸ S')
          rw [List.drop_eq_getElem_cons hlt1] at hq
          refine .inr ⟨go1, fun H2 => j + 1 ≤ ys.length ∧ Bsd2 Z D B1 as1 H1 B5 as5 (RD (ys.drop (j + 1))) H2, fun H2 z => ⟨ys.length - (j + 1), by omega, rfl, z⟩, fun v H2 y => ?_⟩
          obtain ⟨B6, S6, g6, r6⟩ := yl1 v H2 y
          have L6 : Slots Zi.K B6 as' (wipeR ρ3 vs1) (wipe σ3 vs1) := (L5.wide sm pf).mono g6
          refine h6 (.d ys[j]) (wipeR ρ3 vs1) M' _ hq B6 as' v (wipe σ3 vs1) H2 _ S6 L6 r6 fun ρ7 M7 B7 as7 σ7 H7 h7' g7 S7 L7 w7 => ⟨w7.trans wipe_idem, ?_⟩
          refine h7 ρ7 M7 _ h7' B7 as7 σ7 H7 _ S7 L7 (noX _ _ _) fun b M8 B8 as8 H8 h8 g8 S8 => ?_
          have gB := (g6.trans g7).trans g8
          have more : ∀ {Bz Hz asz}, Gr B' as' H' Bz asz Hz → Same B5 Bz ∧ ∃ t, asz = as5 ++ t := fun {Bz Hz asz} g => by
            obtain ⟨t, e⟩ := pf
            obtain ⟨t2, e2, _⟩ := g.a
            exact ⟨sm.trans g.b, t ++ t2, by rw [e2, e, List.append_assoc]⟩
          cases b with
          | true =>
            show te σ7 H8 _
            refine h4 ρ7 M8 _ (h8.1 rfl) B8 as8 σ7 H8 _ S8 (L7.mono g8) (noX _ _ _) fun c M9 v9 B9 as9 H9 h9 g9 S9 o9 => ?_
            unfold kD at h9
            split at h9
            · rename_i d M10 e
              obtain ⟨B10, S10, g10, r10⟩ := asD_ok S9 o9 e
              have ga := (gB.trans g9).trans g10
              obtain ⟨s1, s2, s3⟩ := ga.side Da Db Dh
              rw [hK] at S10 r10
              exact ⟨accV, s3, by rw [ra.len]; exact h9.1, hlt1, acc ++ [d], accV ++ [v9], M10, B10, as9, h9.2, (g'.trans ga).beside hD s1, S10.beside s1 s2, s1, s2, upd_same, (ra.mono ga.b).append (.one r10), more ga⟩
            · cases h9
          | false =>
            obtain ⟨s1, s2, s3⟩ := gB.side Da Db Dh
            rw [hK] at S8
            exact ⟨hlt1, acc, accV, M8, B8, as8, h8.2 rfl, g'.trans gB, S8, s1, s2, s3, ra.mono gB.b, more gB⟩
        · have hj' : j = ys.length := by omega
          subst hj'
          rw [List.drop_length] at hq
          exact .inl ⟨R5.stop M' B' as' H' sm (hK ▸ S'), hlt, acc, accV, M', B', as', hq, g', S', Da, Db, Dh, ra⟩
    · have hi' : i = xs.length := by omega
      subst hi'
      rw [List.drop_length] at hr'
      obtain ⟨S3, e3⟩ := S'.adopt Da Db Dh ra
      refine .inl ⟨R.stop M' B' as' H' g'.b S', q _ _ _ B' (as' ++ [D]) H' hr' (gr1.trans ⟨g'.b, ?_, g'.h, g'.n, g'.k⟩) S3 ⟨D, e3, rfl⟩⟩
      obtain ⟨t, e, f⟩ := g'.a
      refine ⟨t ++ [D], by rw [e, List.append_assoc], fun l hl => ?_⟩
      rcases List.mem_append.mp hl with z | z
      · exact f l z
      · rw [List.mem_singleton.mp z]
        exact hD
theorem y_lc2 {X : Cy} {elt tg iter tg1 iter1 : Expr} {ifs ifs1 : List Expr} {scope : Scope} {own : List (Str × Nat)} {vs1 : List Nat} {pos : Pos} {pi pi1 : Pi} {tgt tgt1 : TG} {g g1 : Pg} {pt pt1 : Pt} {pe : Px} (hc : X.calm = true) (hN : X.N.Nodup) (hv : ∀ i ∈ vs1, i ∈ own.map (·.2)) (hi : YI X tg iter pi) (ok : BlkOk X.N X.env.scope scope own)
    (hg : ∀ s H C cl fp, YGw (own.map (·.2)) (blkY X s H scope (compEnvC scope cl C X.env) fp) tg tgt g) (ht : ∀ s H C cl fp, YTs (blkY X s H scope (compEnvC scope cl C X.env) fp) ifs pt)
    (hi1 : ∀ s H C cl fp, YI (blkY X s H scope (compEnvC scope cl C X.env) fp) tg1 iter1 pi1)
    (hg1 : ∀ s H C cl fp, YGw vs1 (blkY X s H scope (compEnvC scope cl C X.env) fp) tg1 tgt1 g1) (ht1 : ∀ s H C cl fp, YTs (blkY X s H scope (compEnvC scope cl C X.env) fp) ifs1 pt1)
    (he : ∀ s H C cl fp, YE (blkY X s H scope (compEnvC scope cl C X.env) fp) elt pe) (hs : ∀ x, foldedSetIterable iter X.env x = pure x := by intro _; rfl) (hs1 : ∀ env x, foldedSetIterable iter1 env x = pure x := by intro _ _; rfl) :
    YE X (.ListComp elt [⟨tg, iter, ifs, 0⟩, ⟨tg1, iter1, ifs1, 0⟩] scope pos) (pLc2 pi g pt pi1 g1 pt1 pe (own.map (·.2)) vs1) := by
  obtain ⟨ti, i1, i2⟩ := hi
  refine ⟨_, pe_lc2 (wi1 := canI ⟨X.K, fun _ _ _ _ => False, fun _ _ _ => False⟩ pi1) (te := canE ⟨X.K, fun _ _ _ _ => False, fun _ _ _ => False⟩ pe) (tt := canT ⟨X.K, fun _ _ _ _ => False, fun _ _ _ => False⟩ pt) (tt1 := canT ⟨X.K, fun _ _ _ _ => False, fun _ _ _ => False⟩ pt1) hc hN i1 ok hv (fun s H C cl fp => (hg s H C cl fp).pg) (fun s H C cl fp => can_t (ht s H C cl fp)) (fun s H C cl fp => can_i (hi1 s H C cl fp)) (fun s H C cl fp => (hg1 s H C cl fp).pg) (fun s H C cl fp => can_t (ht1 s H C cl fp)) (fun s H C cl fp => can_e (he s H C cl fp)) hs hs1, ?_⟩
  refine sim_lc2 (Zi := ⟨X.K, fun _ _ _ _ => False, fun _ _ _ => False⟩) rfl (fun _ _ _ h => h) i2 ?_ ?_ ?_ ?_ ?_ ?_
  · exact (hg X.s_0 X.H_0 X.env.locals [] []).sim
  · exact fun ρ M Qh h B as σ H Q S L W0 q => ⟨ρ, M, Qh, B, as, h, S, L, W0, q⟩
  · exact fun ρ M Qh h B as σ H Q S L W0 q => ⟨ρ, M, Qh, B, as, h, S, L, W0, q⟩
  · exact (hg1 X.s_0 X.H_0 X.env.locals [] []).sim
  · exact fun ρ M Qh h B as σ H Q S L W0 q => ⟨ρ, M, Qh, B, as, h, S, L, W0, q⟩
  · exact fun ρ M Qh h B as σ H Q S L W0 q => ⟨ρ, M, Qh, B, as, h, S, L, W0, q⟩
theorem w_lc2 {pi pi1 : Pi} {g g1 : Pg} {pt pt1 : Pt} {pe : Px} {vs vs1 : List Nat} {ρ : Rho} {M : Mem} {Q : Qx} (h : pi ρ M fun xs M1 => runC2 g pt pi1 g1 pt1 pe vs1 (wipeR ρ vs) Q xs [] M1) : pLc2 pi g pt pi1 g1 pt1 pe vs vs1 ρ M Q := h
section
variable {g g1 : Pg} {pt pt1 : Pt} {pi1 : Pi} {pe : Px} {vs1 : List Nat} {ρ : Rho} {Q : Qx}
theorem runD_inv {N : List PyData → Mem → Prop} {ys acc0 : List PyData} {M : Mem} (I : Nat → List PyData → Mem → Prop) (h0 : I 0 acc0 M) (hs : ∀ (i : Nat) (y : PyData) (acc : List PyData) (M : Mem) (N : List PyData → Mem → Prop), ys[i]? = some y → I i acc M → (∀ acc' M', I (i + 1) acc' M' → N acc' M') →
    g1 (.d y) ρ M fun ρ3 M2 => pt1 ρ3 M2 fun b M3 => (b = true → pe ρ3 M3 fun c M4 => kD (fun d M5 => acc.length < sizeLine ∧ N (acc ++ [d]) M5) c M4) ∧ (b = false → N acc M3)) (hd : ∀ acc M, I ys.length acc M → N acc M) : runD g1 pt1 pe ρ N ys acc0 M := by
  have key : ∀ (n i : Nat) (acc : List PyData) (M : Mem), ys.length - i = n → i ≤ ys.length → I i acc M → runD g1 pt1 pe ρ N (ys.drop i) acc M := fun n => by
    induction n with
    | zero =>
      intro i acc M hn hi h
      have e : i = ys.length := by omega
      subst e
      rw [List.drop_length]
      exact hd acc M h
    | succ n ih =>
      intro i acc M hn hi h
      have hlt : i < ys.length := by omega
      rw [List.drop_eq_getElem_cons hlt]
      exact hs i ys[i] acc M (fun acc' M' => runD g1 pt1 pe ρ N (ys.drop (i + 1)) acc' M') (List.getElem?_eq_getElem hlt) h fun acc' M' h' => ih (i + 1) acc' M' (by omega) hlt h'
  exact key _ 0 acc0 M rfl (Nat.zero_le _) h0
theorem runC2_inv {xs : List PyData} {M : Mem} (I : Nat → List PyData → Mem → Prop) (h0 : I 0 [] M) (hs : ∀ (i : Nat) (x : PyData) (acc : List PyData) (M : Mem) (N : List PyData → Mem → Prop), xs[i]? = some x → I i acc M → (∀ acc' M', I (i + 1) acc' M' → N acc' M') →
    g (.d x) ρ M fun ρ2 M2 => pt ρ2 M2 fun b M3 => (b = true → pi1 ρ2 M3 fun ys M4 => runD g1 pt1 pe (wipeR ρ2 vs1) N ys acc M4) ∧ (b = false → N acc M3)) (hd : ∀ acc M, I xs.length acc M → Q (.r M.length) (M ++ [.live acc])) : runC2 g pt pi1 g1 pt1 pe vs1 ρ Q xs [] M := by
  have key : ∀ (n i : Nat) (acc : List PyData) (M : Mem), xs.length - i = n → i ≤ xs.length → I i acc M → runC2 g pt pi1 g1 pt1 pe vs1 ρ Q (xs.drop i) acc M := fun n => by
    induction n with
    | zero =>
      intro i acc M hn hi h
      have e : i = xs.length := by omega
      subst e
      rw [List.drop_length]
      exact hd acc M h
    | succ n ih =>
      intro i acc M hn hi h
      have hlt : i < xs.length := by omega
      rw [List.drop_eq_getElem_cons hlt]
      exact hs i xs[i] acc M (fun acc' M' => runC2 g pt pi1 g1 pt1 pe vs1 ρ Q (xs.drop (i + 1)) acc' M') (List.getElem?_eq_getElem hlt) h fun acc' M' h' => ih (i + 1) acc' M' (by omega) hlt h'
  exact key _ 0 [] M rfl (Nat.zero_le _) h0
end
theorem y_setLc2 {X : Cy} {i : Nat} {y : Str} {py : Pos} {elt tg iter tg1 iter1 : Expr} {ifs ifs1 : List Expr} {scope : Scope} {own : List (Str × Nat)} {vs1 : List Nat} {pos spos : Pos} {pi pi1 : Pi} {tgt tgt1 : TG} {g g1 : Pg} {pt pt1 : Pt} {pe : Px} (hc : X.calm = true) (hN : X.N.Nodup) (hy : X.N[i]? = some y) (hyl : X.env.scope.names.lookup y = some .local)
    (hsw : swapsWith (.ListComp elt [⟨tg, iter, ifs, 0⟩, ⟨tg1, iter1, ifs1, 0⟩] scope pos) (some (.Name y py)) spos.line X.env = pure true) (hv : ∀ i ∈ vs1, i ∈ own.map (·.2)) (hi : YI X tg iter pi) (ok : BlkOk X.N X.env.scope scope own)
    (hg : ∀ s H C cl fp, YGw (own.map (·.2)) (blkY X s H scope (compEnvC scope cl C X.env) fp) tg tgt g) (ht : ∀ s H C cl fp, YTs (blkY X s H scope (compEnvC scope cl C X.env) fp) ifs pt)
    (hi1 : ∀ s H C cl fp, YI (blkY X s H scope (compEnvC scope cl C X.env) fp) tg1 iter1 pi1)
    (hg1 : ∀ s H C cl fp, YGw vs1 (blkY X s H scope (compEnvC scope cl C X.env) fp) tg1 tgt1 g1) (ht1 : ∀ s H C cl fp, YTs (blkY X s H scope (compEnvC scope cl C X.env) fp) ifs1 pt1)
    (he : ∀ s H C cl fp, YE (blkY X s H scope (compEnvC scope cl C X.env) fp) elt pe) (hs : ∀ x, foldedSetIterable iter X.env x = pure x := by intro _; rfl) (hs1 : ∀ env x, foldedSetIterable iter1 env x = pure x := by intro _ _; rfl) :
    YS X (.Assign [.Name y py] (.ListComp elt [⟨tg, iter, ifs, 0⟩, ⟨tg1, iter1, ifs1, 0⟩] scope pos) spos) (pAsg (pLc2 pi g pt pi1 g1 pt1 pe (own.map (·.2)) vs1) (gNm i)) := by
  obtain ⟨ti, i1, i2⟩ := hi
  refine ⟨_, ps_setLc2 (wi1 := canI ⟨X.K, fun _ _ _ _ => False, fun _ _ _ => False⟩ pi1) (te := canE ⟨X.K, fun _ _ _ _ => False, fun _ _ _ => False⟩ pe) (tt := canT ⟨X.K, fun _ _ _ _ => False, fun _ _ _ => False⟩ pt) (tt1 := canT ⟨X.K, fun _ _ _ _ => False, fun _ _ _ => False⟩ pt1) hc hN hy hyl hsw i1 ok hv (fun s H C cl fp => (hg s H C cl fp).pg) (fun s H C cl fp => can_t (ht s H C cl fp)) (fun s H C cl fp => can_i (hi1 s H C cl fp)) (fun s H C cl fp => (hg1 s H C cl fp).pg) (fun s H C cl fp => can_t (ht1 s H C cl fp)) (fun s H C cl fp => can_e (he s H C cl fp)) hs hs1, simS_asg ?_ simG_name⟩
  refine sim_lc2 (Zi := ⟨X.K, fun _ _ _ _ => False, fun _ _ _ => False⟩) rfl (fun _ _ _ h => h) i2 ?_ ?_ ?_ ?_ ?_ ?_
  · exact (hg X.s_0 X.H_0 X.env.locals [] []).sim
  · exact fun ρ M Qh h B as σ H Q S L W0 q => ⟨ρ, M, Qh, B, as, h, S, L, W0, q⟩
  · exact fun ρ M Qh h B as σ H Q S L W0 q => ⟨ρ, M, Qh, B, as, h, S, L, W0, q⟩
  · exact (hg1 X.s_0 X.H_0 X.env.locals [] []).sim
  · exact fun ρ M Qh h B as σ H Q S L W0 q => ⟨ρ, M, Qh, B, as, h, S, L, W0, q⟩
  · exact fun ρ M Qh h B as σ H Q S L W0 q => ⟨ρ, M, Qh, B, as, h, S, L, W0, q⟩
/-! ## the truth of a list -/
def truQ (Q : Qt) (c : Cell) (M : Mem) : Prop := match deref c M with
  | some (.list xs) => Q (!xs.isEmpty) M
  | _ => False
def pTruL (pe : Px) : Pt := fun ρ M Q => pe ρ M fun c M1 => truQ Q c M1
theorem xt_tru {X : Cy} {a : Expr} {pe : Px} (h : YE X a pe) (he : ∀ whole, isTrue a X.env whole = (do let v ← whole; standAt a.pos; holding [v] (truthy v)) := by intro _; rfl) : YT X a (pTruL pe) := by
  obtain ⟨t, h1, h2⟩ := h
  refine ⟨_, pt_truth h1 he, fun ρ M Qh hp B as σ H Q S L W0 q => h2 ρ M _ hp B as σ H _ S L W0 fun c M1 v B1 as1 H1 h1 g1 S1 o1 => ?_⟩
  unfold truQ at h1
  split at h1
  · rename_i xs e
    obtain ⟨l, ws, rfl, hl, r⟩ := deref_list S1 o1 e
    refine ⟨!xs.isEmpty, .inl ⟨ws, .inl (.inl hl), ?_⟩, q _ _ _ _ _ h1 g1 S1⟩
    have := r.len
    cases ws <;> cases xs <;> first | rfl | simp at this
  · cases h1
theorem w_tru {pe : Px} {ρ : Rho} {M : Mem} {Q : Qt} (h : pe ρ M fun c M1 => truQ Q c M1) : pTruL pe ρ M Q := h
theorem w_truF {M : Mem} {Q : Qt} {c : Cell} {xs : List PyData} (e : Sees M c (.list xs)) (h : Q (!xs.isEmpty) M) : truQ Q c M := by
  unfold truQ
  rw [e.deref]
  exact h
theorem ixN_last {α : Type} {xs : List α} {x : α} : ixN (xs ++ [x]).length (-1) = some xs.length := by
  unfold ixN
  rw [List.length_append, List.length_singleton, if_neg (by decide), if_pos (by omega)]
  congr 1
  omega
theorem set_last {α : Type} {xs : List α} {x y : α} : (xs ++ [x]).set xs.length y = xs ++ [y] := by
  rw [List.set_append_right _ _ (Nat.le_refl _), Nat.sub_self]
  rfl
theorem w_giL {R : Rho → Mem → Prop} {ρ : Rho} {x : Cell} {n : Nat} {d z : PyData} {M M3 : Mem} {xs : List PyData} (e : asD x M = some (d, M3)) (e2 : M3[n]? = some (.live (xs ++ [z]))) (h : R ρ (M3.set n (.live (xs ++ [d])))) : giQ R ρ x (.r n) (.d (.int (-1))) M := by
  refine w_giQ e e2 ixN_last ?_
  rw [set_last]
  exact h
theorem w_cont {D : En} {ρ : Rho} {M : Mem} (h : D.ct ρ M) : pCont D ρ M := h
theorem w_brk {D : En} {ρ : Rho} {M : Mem} (h : D.bk ρ M) : pBreak D ρ M := h
theorem w_yes {ρ : Rho} {M : Mem} {Q : Qt} (h : Q true M) : pYes ρ M Q := h
end Kt

set_option Elab.async false
set_option linter.all false
set_option maxRecDepth 100000
set_option maxHeartbeats 2000000
namespace Kt
open PySem PySem.Spec PyProof.Rows L2
/-! ## a < b < c < d -/
def tChain3 (r1 r2 r3 : R2) (ta tb tc td : TE) : TE := fun σ H Q => ta σ H fun x H1 => tb σ H1 fun y H2 => r1 x y H2 fun z H3 => ∃ k, z = .bl k ∧
  (if k = true then tc σ H3 fun w H4 => r2 y w H4 fun z2 H5 => ∃ k2, z2 = .bl k2 ∧ (if k2 = true then td σ H5 fun u H6 => r3 w u H6 Q else Q (.bl false) H5) else Q (.bl false) H3)
section
variable {X : Cx} {a b c d : Expr} {ta tb tc td : TE} {r1 r2 r3 : R2} {pos : Pos}
theorem pt_chain3 {o1 o2 o3 : CmpOp} (h1 : OpR X (compareOp o1) r1) (h2 : OpR X (compareOp o2) r2) (h3 : OpR X (compareOp o3) r3) (ha : PE X a ta) (hb : PE X b tb) (hc : PE X c tc) (hd : PE X d td)
    (hm : lastMarks [o1, o2, o3] [b, c, d] = false := by with_unfolding_all rfl) : PT X (.Compare a [o1, o2, o3] [b, c, d] pos) (tTest (tChain3 r1 r2 r3 ta tb tc td)) := by
  refine ⟨fun pins s σ H Q I h => ?_⟩
  refine isTrue_chain (thn (ha.run pins s σ H _ I h) fun v s1 ⟨x, H1, I1, e1, q1⟩ => test_link (thn (hb.run pins s1 σ H1 _ I1 q1) fun u s2 ⟨y, H2, I2, e2, q2⟩ =>
    thn (h1 pins s2 σ H2 x y v u _ I2 e1 e2 q2) fun d s3 ⟨z, H3, I3, e3, k, e, q3⟩ => ?_)) hm
  subst e
  cases e3
  refine wpAny_truthy_bool ?_
  cases k with
  | false =>
    obtain ⟨k', e', q'⟩ := q3
    cases e'
    exact ite_ff ⟨H3, I3, q'⟩
  | true =>
    refine ite_tt (test_link (thn (hc.run pins s3 σ H3 _ I3 q3) fun w' s4 ⟨z', H4, I4, e4, q4⟩ => thn (h2 pins s4 σ H4 y z' u w' _ I4 e2 e4 q4) fun d' s5 ⟨z2, H5, I5, e5, k2, ek, q5⟩ => ?_))
    subst ek
    cases e5
    refine wpAny_truthy_bool ?_
    cases k2 with
    | false =>
      obtain ⟨k', e', q'⟩ := q5
      cases e'
      exact ite_ff ⟨H5, I5, q'⟩
    | true =>
      refine ite_tt (test_last (thn (hd.run pins s5 σ H5 _ I5 q5) fun t' s6 ⟨z6, H6, I6, e6, q6⟩ => thn (h3 pins s6 σ H6 z' z6 w' t' _ I6 e4 e6 q6) fun d7 s7 ⟨z7, H7, I7, e7, k7, ek7, q7⟩ => ?_))
      subst ek7
      cases e7
      exact wpAny_truthy_bool ⟨H7, I7, q7⟩
end
def pChn3 (r r' r'' : Pr2) (pa pb pc pd : Px) : Px := fun ρ M Q => pa ρ M fun x M1 => pb ρ M1 fun y M2 => r x y M2 fun z M3 => match z with
  | .d (.bool k) => (k = true → pc ρ M3 fun w M4 => r' y w M4 fun z2 M5 => match z2 with
    | .d (.bool k2) => (k2 = true → pd ρ M5 fun u M6 => r'' w u M6 Q) ∧ (k2 = false → Q (.d (.bool false)) M5)
    | _ => False) ∧ (k = false → Q (.d (.bool false)) M3)
  | _ => False
section
variable {X : Cy} {a b c d : Expr} {pa pb pc pd : Px} {r r' r'' : Pr2} {pos : Pos}
theorem sim_chn3 {Z : Wi} {ra rb rc : R2} {ta tb tc td : TE} (h : SimR Z.K ra r) (h' : SimR Z.K rb r') (h'' : SimR Z.K rc r'') (ha : Sim Z ta pa) (hb : Sim Z tb pb) (hc : Sim Z tc pc) (hd : Sim Z td pd) : Sim Z (tChain3 ra rb rc ta tb tc td) (pChn3 r r' r'' pa pb pc pd) := fun ρ M Qh hp B as σ H Q S L W0 q =>
  ha ρ M _ hp B as σ H _ S L W0 fun x M1 v1 B1 as1 H1 h1 g1 S1 o1 => hb ρ M1 _ h1 B1 as1 σ H1 _ S1 (L.mono g1) (W0.on g1) fun y M2 v2 B2 as2 H2 h2 g2 S2 o2 =>
    h x y M2 _ h2 B2 as2 v1 v2 H2 _ S2 (o1.mono g2) o2 fun z M3 v3 B3 as3 H3 h3 g3 S3 o3 => by
      split at h3
      · rename_i k
        cases (show Rp Z.K B3 v3 (.bool k) from o3)
        refine ⟨k, rfl, ?_⟩
        have g23 := (g1.trans g2).trans g3
        cases k with
        | true =>
          show tc σ H3 _
          exact hc ρ M3 _ (h3.1 rfl) B3 as3 σ H3 _ S3 (L.mono g23) (W0.on g23) fun w M4 v4 B4 as4 H4 h4 g4 S4 o4 => h' y w M4 _ h4 B4 as4 v2 v4 H4 _ S4 ((o2.mono g3).mono g4) o4 fun z5 M5 v5 B5 as5 H5 h5 g5 S5 o5 => by
            split at h5
            · rename_i k2
              cases (show Rp Z.K B5 v5 (.bool k2) from o5)
              refine ⟨k2, rfl, ?_⟩
              have g25 := (g23.trans g4).trans g5
              cases k2 with
              | true =>
                show td σ H5 _
                exact hd ρ M5 _ (h5.1 rfl) B5 as5 σ H5 _ S5 (L.mono g25) (W0.on g25) fun u M6 v6 B6 as6 H6 h6 g6 S6 o6 => h'' w u M6 Qh h6 B6 as6 v4 v6 H6 Q S6 ((o4.mono g5).mono g6) o6 fun c7 M7 v7 B7 as7 H7 h7 g7 S7 o7 =>
                  q c7 M7 v7 B7 as7 H7 h7 ((g25.trans g6).trans g7) S7 o7
              | false => exact q _ M5 _ B5 as5 H5 (h5.2 rfl) g25 S5 (.bl false)
            · cases h5
        | false => exact q _ M3 _ B3 as3 H3 (h3.2 rfl) g23 S3 (.bl false)
      · cases h3
theorem yt_chn3 {o1 o2 o3 : CmpOp} (ho : YOp X (compareOp o1) r) (ho' : YOp X (compareOp o2) r') (ho'' : YOp X (compareOp o3) r'') (ha : YE X a pa) (hb : YE X b pb) (hc : YE X c pc) (hd : YE X d pd) (hm : lastMarks [o1, o2, o3] [b, c, d] = false := by with_unfolding_all rfl) :
    YT X (.Compare a [o1, o2, o3] [b, c, d] pos) (pTst (pChn3 r r' r'' pa pb pc pd)) := let ⟨_, o1, o2⟩ := ho; let ⟨_, p1, p2⟩ := ho'; let ⟨_, q1, q2⟩ := ho''; let ⟨_, a1, a2⟩ := ha; let ⟨_, b1, b2⟩ := hb; let ⟨_, c1, c2⟩ := hc; let ⟨_, d1, d2⟩ := hd; ⟨_, pt_chain3 o1 p1 q1 a1 b1 c1 d1 hm, simT_test (sim_chn3 o2 p2 q2 a2 b2 c2 d2)⟩
theorem w_chn3 {ρ : Rho} {M : Mem} {Q : Qx} (h : pa ρ M fun x M1 => pb ρ M1 fun y M2 => r x y M2 fun z M3 => match z with
  | .d (.bool k) => (k = true → pc ρ M3 fun w M4 => r' y w M4 fun z2 M5 => match z2 with
    | .d (.bool k2) => (k2 = true → pd ρ M5 fun u M6 => r'' w u M6 Q) ∧ (k2 = false → Q (.d (.bool false)) M5)
    | _ => False) ∧ (k = false → Q (.d (.bool false)) M3)
  | _ => False) : pChn3 r r' r'' pa pb pc pd ρ M Q := h
end
end Kt

set_option Elab.async false
set_option linter.all false
set_option maxRecDepth 100000
set_option maxHeartbeats 2000000
namespace Kt
open PySem PySem.Spec PyProof.Rows L2
/-! ## list(range(a)), and range(a, b) of any bounds -/
def pLRg1 (pb : Px) : Px := fun ρ M Q => pb ρ M fun y M2 => match y with
  | .d (.int j) => RgOk 0 j ∧ Q (.r M2.length) (M2 ++ [.live (intsFrom 0 j.toNat)])
  | _ => False
theorem y_lrg1 {X : Cy} {b : Expr} {pb : Px} {p p0 pos0 pos : Pos} (hc : X.calm = true) (hg : Gl X "range") (hm : X.mg "range" = none) (hgl : Gl X "list") (hml : X.mg "list" = none) (hb : YE X b pb)
    (n2 : starEach [b] X.env = (false, eval b X.env) :: starEach [] X.env := by rfl)
    (n3 : starEach [.Call (.Name "range" p0) [b] [] pos0] X.env = (false, eval (.Call (.Name "range" p0) [b] [] pos0) X.env) :: starEach [] X.env := by rfl) :
    YE X (.Call (.Name "list" p) [.Call (.Name "range" p0) [b] [] pos0] [] pos) (pLRg1 pb) := by
  obtain ⟨tb, b1, b2⟩ := hb
  refine ⟨_, pe_listRg hc hgl hml (prg_1 hg hm b1 n2) n3, fun ρ M Qh h B as σ H Q S L W0 q => ?_⟩
  refine b2 ρ M _ h B as σ H _ S L W0 fun c2 M2 v2 B2 as2 H2 h2 g2 S2 o2 => ?_
  split at h2
  · rename_i j
    have e2 : v2 = .int j := by cases o2; rfl
    refine ⟨j, e2, h2.1, fun p np => ?_⟩
    have ez : rgV 0 j = (List.range j.toNat).map fun (k : Nat) => V.int (0 + (k : Int)) := by unfold rgV; rw [Int.sub_zero]
    rw [ez]
    obtain ⟨S', g', e'⟩ := S2.newL np (rp_map_ints (K := X.K) (B := B2) (fun k => 0 + (k : Int)) (List.range j.toNat))
    exact q _ _ _ _ _ _ h2.2 (g2.trans g') S' ⟨p, e', rfl⟩
  · cases h2
def lrQ1 (Q : Qx) (c : Cell) (M : Mem) : Prop := match c with
  | .d (.int j) => RgOk 0 j ∧ Q (.r M.length) (M ++ [.live (intsFrom 0 j.toNat)])
  | _ => False
theorem w_lrg1 {pb : Px} {ρ : Rho} {M : Mem} {Q : Qx} (h : pb ρ M fun y M2 => lrQ1 Q y M2) : pLRg1 pb ρ M Q := h
theorem w_lrQ1 {M : Mem} {Q : Qx} {j : Int} (h0 : 0 ≤ j) (h1 : j ≤ 16777216) (h : Q (.r M.length) (M ++ [.live (intsFrom 0 j.toNat)])) : lrQ1 Q (.d (.int j)) M := ⟨RgOk.of_le (by decide) h1 (by decide) h0, h⟩
section
variable {X : Cx} {tg : Expr}
theorem turn_long {P : Program} {w : World} {K : PySem.W.Frag} {tg : Expr} (it : Addr) (lo : Int) (n : Nat) : Turn P w K tg (Itr lo n) [it] it (fun i h => IsLongIter h it (lo + (i : Nat) * 1) ((n : Int) - (i : Nat)) 1) where
  mem := by simp
  obj := fun i h st b hb => by
    have e : b = it := by simpa using hb
    subst e
    exact ⟨_, st, fun v z => by
      have z' : Data.fields _ = Data.cell v := z
      cases z'⟩
  keep := fun i h h' st k => k it (by simp) _ st
  item := by
    intro X hP hw hK hc i pins s σ H E I hf st hg
    subst hP hw hK
    obtain ⟨f0, f1, f2, f3, f4, f5⟩ := hf it (by simp)
    have W := Walks.longrange (prog := X.prog) (w := X.w) (I.ok.hd hc) it lo 1 n
    refine W.item i s _ _ hg st fun v h' tk hv st' kk => ?_
    obtain ⟨t, rfl⟩ := hv
    have I1 : Inv X pins σ H { s with heap := h', toks := tk } := I.turned (fun b o hb e => kk b o (by simpa using hb) e) f0 f1 f3 f4 f5
    refine ⟨_, rfl, go_of (s := { s with heap := h', toks := tk }) (n := "longrange_iterator") st' rfl rfl (by decide) ⟨.int (lo + i), H, I1, ⟨t, ?_⟩, ⟨rfl, rfl⟩, st', fun b hb => (hf b hb).1⟩⟩
    rw [Int.mul_one]
  done := by
    intro X hP hw hK hc i pins s σ H E I hf st hg
    subst hP hw hK
    obtain ⟨f0, f1, f2, f3, f4, f5⟩ := hf it (by simp)
    exact wpAny_pyNext_long_end (I.ok.hd hc) st (by have : n ≤ i := hg; omega) fun h' eb => ⟨rfl, I.turned (t' := s.toks) (fun b o hb e => eb b o hb e) f0 f1 f3 f4 f5⟩
  self := fun _ _ _ _ _ st h => wpAny_pyIter_longiter st h
theorem range_itL {pins : List (Addr × Obj)} {σ : L2.St} {H : Hp} {s : Shared} {R : It → Hp → Prop} {E : Value → Shared → Prop} {lo hi : Int} {t u v : Tok} {tk : Nat} (I : Inv X pins σ H s) (hb : Builtin.Range.small lo hi 1 = false)
    (q : R (Itr lo (hi - lo).toNat) H) : wpAny (model X.prog X.w) X.A (pyIter (.ref s.heap.objs.size)) (PIE X pins σ tg R) E { s with heap := s.heap.push { cls := .type "range", data := .fields #[.int lo t, .int hi u, .int 1 v] }, toks := tk } := by
  refine wpAny_pyIter_longrange (IsRange.new ..) hb ?_
  have I1 : Inv X pins σ H { s with heap := s.heap.push { cls := .type "range", data := .fields #[.int lo t, .int hi u, .int 1 v] }, toks := tk } := I.kept fun b o e => Heap.get?_push_of_some _ e
  refine ⟨(s.heap.push { cls := .type "range", data := .fields #[.int lo t, .int hi u, .int 1 v] }).objs.size, [(s.heap.push { cls := .type "range", data := .fields #[.int lo t, .int hi u, .int 1 v] }).objs.size], _, _, H, rfl,
    I1.kept (t' := tk) fun b o e => Heap.get?_push_of_some _ e, turn_long _ lo (hi - lo).toNat, ?_, fun b hb => ?_, q⟩
  · have e1 : lo + ((0 : Nat) : Int) * 1 = lo := by simp
    have e2 : (((hi - lo).toNat : Nat) : Int) - ((0 : Nat) : Int) = Builtin.Range.rangeSize lo hi 1 := by rw [rangeSize_one]; split <;> omega
    show IsLongIter _ _ (lo + ((0 : Nat) : Int) * 1) ((((hi - lo).toNat : Nat) : Int) - ((0 : Nat) : Int)) 1
    rw [e1, e2]
    exact Heap.get?_push_size _ rfl
  · have e : b = (s.heap.push { cls := .type "range", data := .fields #[.int lo t, .int hi u, .int 1 v] }).objs.size := by simpa using hb
    subst e
    exact I1.fpOk (Nat.le_refl _) (I1.hok.fresh (Nat.le_refl _))
def iRng2L (ta : TA) : TI := fun σ H R => ta σ H fun vs H1 => ∃ i j : Int, vs = [.int i, .int j] ∧ ((-(2 ^ 62) ≤ i ∧ i < 2 ^ 62 ∧ -(2 ^ 62) ≤ j ∧ j < 2 ^ 62) ∨ Builtin.Range.small i j 1 = false) ∧ R (Itr i (j - i).toNat) H1
theorem pi_range2L {a b : Expr} {ta : TA} {p pos : Pos} (hg : Gl X "range") (hm : X.mg "range" = none) (ha : PA X [a, b] ta) (hs : starEach [a, b] X.env = [(false, eval a X.env), (false, eval b X.env)] := by rfl) (hs2 : starEach [b] X.env = [(false, eval b X.env)] := by rfl) :
    PI X tg (.Call (.Name "range" p) [a, b] [] pos) (iRng2L ta) := by
  refine ⟨fun pins s σ H R I h => ?_⟩
  refine Call_ (ld_blt I hg hm boot_range (PyProof.Rows.callWith_type1 (thn (ha.run pos pins s σ H _ I h) fun us s1 ⟨vs, H1, I1, r1, q1⟩ => ?_) (by rw [hs, hs2]) (by rw [hs2]; rfl)))
  obtain ⟨i, j, e, hb, q⟩ := q1
  subst e
  cases r1 with
  | cons r rr =>
    cases rr with
    | cons r' rr =>
      cases rr
      obtain ⟨t, rfl⟩ := r
      obtain ⟨t', rfl⟩ := r'
      rcases hb with ⟨q1, q2, q3, q4⟩ | hb
      · exact call_range_2 (range_it I1 q1 q2 q3 q4 q)
      · exact call_range_2 (range_itL I1 hb q)
end
def iQ2L (Q : List PyData → Mem → Prop) (cs : List Cell) (M : Mem) : Prop := match cs with
  | [.d (.int i), .d (.int j)] => ((-(2 ^ 62) ≤ i ∧ i < 2 ^ 62 ∧ -(2 ^ 62) ≤ j ∧ j < 2 ^ 62) ∨ Builtin.Range.small i j 1 = false) ∧ Q (intsFrom i (j - i).toNat) M
  | _ => False
def iRg2L (pa : Pa) : Pi := fun ρ M Q => pa ρ M fun cs M1 => iQ2L Q cs M1
theorem yi_rng2L {X : Cy} {tg a b : Expr} {pa : Pa} {p0 pos : Pos} (hg : Gl X "range") (hm : X.mg "range" = none) (ha : YA X [a, b] pa) (hs : starEach [a, b] X.env = [(false, eval a X.env), (false, eval b X.env)] := by rfl) (hs2 : starEach [b] X.env = [(false, eval b X.env)] := by rfl) : YI X tg (.Call (.Name "range" p0) [a, b] [] pos) (iRg2L pa) := by
  obtain ⟨t, h1, h2⟩ := ha
  refine ⟨_, pi_range2L hg hm h1 hs hs2, fun ρ M Qh h B as σ H R S L W0 q => h2 ρ M _ h B as σ H _ S L W0 fun cs M1 vs B1 as1 H1 hh g1 S1 o1 => ?_⟩
  unfold iQ2L at hh
  split at hh
  · rename_i i j
    obtain _ | ⟨o1, _ | ⟨o2, _ | _⟩⟩ := o1
    cases (show Rp X.K B1 _ (.int i) from o1)
    cases (show Rp X.K B1 _ (.int j) from o2)
    exact ⟨i, j, rfl, hh.1, q _ M1 B1 as1 H1 _ hh.2 g1 S1 runs_rng⟩
  · cases hh
theorem w_iRg2L {pas : Pa} {ρ : Rho} {M : Mem} {R : List PyData → Mem → Prop} (h : pas ρ M fun cs M1 => iQ2L R cs M1) : iRg2L pas ρ M R := h
theorem w_iQ2L {M : Mem} {R : List PyData → Mem → Prop} {i j : Int} (h1 : (-(2 ^ 62) ≤ i ∧ i < 2 ^ 62 ∧ -(2 ^ 62) ≤ j ∧ j < 2 ^ 62) ∨ Builtin.Range.small i j 1 = false) (h : R (intsFrom i (j - i).toNat) M) : iQ2L R [.d (.int i), .d (.int j)] M := ⟨h1, h⟩
end Kt

set_option Elab.async false
set_option linter.all false
set_option maxRecDepth 100000
set_option maxHeartbeats 2000000
namespace Kt
open PySem PySem.Spec PyProof.Rows L2
/-! ## a, b, .. = x, y, .. of four names and more: a tuple is made and taken apart, no list freezes -/
def setCs : Rho → List Nat → List Cell → Rho
  | ρ, i :: is, c :: cs => setCs (ρ.set i (some c)) is cs
  | ρ, _, _ => ρ
def setVs : L2.St → List Nat → List V → L2.St
  | σ, i :: is, v :: vs => setVs (σ.set i (some v)) is vs
  | σ, _, _ => σ
theorem slots_sets {K : PySem.W.Frag} {B : Hp} {as : List Addr} : ∀ {is : List Nat} {vs : List V} {cs : List Cell} {ρ : Rho} {σ : L2.St}, Slots K B as ρ σ → CellsOk K B as vs cs → Slots K B as (setCs ρ is cs) (setVs σ is vs)
  | [], _, _, _, _, S, _ => by unfold setCs setVs; exact S
  | i :: is, _, _, _, _, S, .nil => by unfold setCs setVs; exact S
  | i :: is, v :: vs, c :: cs, ρ, σ, S, .cons h r => by
    unfold setCs setVs
    exact slots_sets (S.set h) r
inductive NmG (X : Cx) : List Expr → List Nat → TGs → Prop
  | nil : NmG X [] [] gNil
  | cons {e : Expr} {es : List Expr} {i : Nat} {is : List Nat} {t : TGs} (h : PG X e (gName i)) (r : NmG X es is t) (hs : (assignEach (e :: es) X.env).map (·.2) = assign e X.env :: (assignEach es X.env).map (·.2)) : NmG X (e :: es) (i :: is) (gCons (gName i) t)
theorem NmG.pgs {X : Cx} {es : List Expr} {is : List Nat} {t : TGs} (h : NmG X es is t) : PGs X es t := by
  induction h with
  | nil => exact pgs_nil
  | cons h r hs ih => exact pgs_cons h ih hs
theorem NmG.run {X : Cx} {es : List Expr} {is : List Nat} {t : TGs} (h : NmG X es is t) : ∀ {vs : List V} {σ : L2.St} {H : Hp} {Q : L2.St → Hp → Prop}, vs.length = is.length → Q (setVs σ is vs) H → t vs σ H Q := by
  induction h with
  | nil =>
    intro vs σ H Q hl q
    cases vs with
    | nil => exact ⟨rfl, q⟩
    | cons => cases hl
  | cons h r hs ih =>
    intro vs σ H Q hl q
    cases vs with
    | nil => cases hl
    | cons v vs =>
      refine ⟨v, vs, rfl, ?_⟩
      exact ih (by simpa using hl) q
def pnQ (is : List Nat) (D : En) (ρ : Rho) (cs : List Cell) (M1 : Mem) : Prop := (cs.length = is.length ∧ cs.length ≤ sizeLine) ∧ D.nx (setCs ρ is cs) M1
def pParN (is : List Nat) (pa : Pa) : Ps := fun D ρ M => pa ρ M fun cs M1 => pnQ is D ρ cs M1
theorem CellsOk.len2 {K : PySem.W.Frag} {B : Hp} {as : List Addr} {vs : List V} {cs : List Cell} (h : CellsOk K B as vs cs) : vs.length = cs.length := by
  induction h with
  | nil => rfl
  | cons _ _ ih => exact congrArg (· + 1) ih
theorem y_parN {X : Cy} {es as2 : List Expr} {is : List Nat} {t : TGs} {pa : Pa} {kt k2} {pt pt2 pos : Pos} {n : Nat} (hc : X.calm = true) (hg : NmG X.toCx es is t) (ha : YA X as2 pa) (hi : is.length = n := by rfl)
    (hn : (assignEach es X.env).length = n := by rfl) (hst : (assignEach es X.env).findIdx? (·.1) = none := by rfl)
    (hs : swapsWithSole [.Tuple es kt pt] (.Tuple as2 k2 pt2) pos.line X.env = pure false := by rfl) (hw : swappedStores [.Tuple es kt pt] (.Tuple as2 k2 pt2) X.env = pure none := by rfl)
    (h1 : (assignEach [.Tuple es kt pt] X.env).map (·.2) = [assign (.Tuple es kt pt) X.env] := by rfl) : YS X (.Assign [.Tuple es kt pt] (.Tuple as2 k2 pt2) pos) (pParN is pa) := by
  obtain ⟨ta, a1, a2⟩ := ha
  refine ⟨_, ps_asg (pe_tup a1) (pg_tup hc hg.pgs hn hst) hs hw h1, fun D ρ M h B as σ H D' S L W0 e => a2 ρ M _ h B as σ H _ S L W0 fun cs M1 vs B1 as1 H1 hh g1 S1 o1 => ?_⟩
  obtain ⟨⟨l1, l2⟩, hh⟩ := hh
  refine ⟨by rw [o1.len2]; exact l2, fun p np => ?_⟩
  obtain ⟨S', g'⟩ := S1.new (o := .tup vs) np
  refine ⟨p, vs, rfl, .inl ?_, by rw [o1.len2, l1, hi], ?_⟩
  · exact Rd.of upd_same
  refine hg.run (by rw [o1.len2, l1]) ?_
  exact e.nx _ M1 _ as1 _ _ hh (g1.trans g') S' (slots_sets ((L.mono g1).mono g') (o1.mono g'))
theorem w_parN {is : List Nat} {pa : Pa} {D : En} {ρ : Rho} {M : Mem} (h : pa ρ M fun cs M1 => pnQ is D ρ cs M1) : pParN is pa D ρ M := h
theorem w_pnQ {is : List Nat} {D : En} {ρ : Rho} {cs : List Cell} {M : Mem} (h1 : cs.length = is.length) (h2 : cs.length ≤ sizeLine) (h : D.nx (setCs ρ is cs) M) : pnQ is D ρ cs M := ⟨⟨h1, h2⟩, h⟩
theorem w_seqParN {is : List Nat} {pa : Pa} {q : Ps} {D : En} {ρ : Rho} {M : Mem} (h : pParN is pa { D with nx := q D } ρ M) : pSeq (pParN is pa) q D ρ M := h
end Kt

set_option Elab.async false
set_option linter.all false
set_option maxRecDepth 100000
set_option maxHeartbeats 2000000
namespace Kt
open PySem PySem.Spec PyProof.Rows L2
/-! ## list(range(a, b, c)) of any bounds -/
section
variable {P : Program} {w : World} {A : Around} {E : Value → Shared → Prop} {s : Shared}
/-- the iterator that a range gives, and that it walks -/
structure RgIt (P : Program) (w : World) (A : Around) (E : Value → Shared → Prop) (s : Shared) (r : Addr) (a c : Int) (n : Nat) (io : Obj) (St : Nat → Heap → Prop) : Prop where
  go : ∀ Q : Value → Shared → Prop, Q (.ref s.heap.objs.size) { s with heap := s.heap.push io } → wpAny (model P w) A (pyIter (.ref r)) Q E s
  wk : Walks P w A s.heap.objs.size [s.heap.objs.size] [s.heap.objs.size] n (fun i v => ∃ t, v = .int (a + i * c) t) St
  st : ∀ h : Heap, h.get? s.heap.objs.size = some io → St 0 h
  nf : io.isFreed = false
abbrev mtL (k : Nat) : Obj := { cls := .type "list", data := .seq #[] k }
theorem extend_rg {R : Result → Shared → Prop} {r S : Addr} {a b c : Int} {t u v : Tok} {n k0 : Nat} {io : Obj} {St : Nat → Heap → Prop} {res : Value} (isR : IsRange s.heap r a b c t u v) (G : RgIt P w A.in1 (fun e s' => R (.error e) s') s r a c n io St)
    (sz : Builtin.Range.rangeSize a b c = n) (le : n ≤ 2 ^ 24) (hS : s.heap.get? S = some (mtL k0))
    (fin : ∀ (h' : Heap) (tk : Nat) (its : Array Value) (k : Nat), (∀ b o, b ≠ S → s.heap.get? b = some o → h'.get? b = some o) → h'.get? S = some { cls := .type "list", dict := none, data := .seq its k, slots := #[] } →
      ItemsOf (fun i v => ∃ t, v = .int (a + i * c) t) its n → R (.ok (.ret res)) { s with heap := h', toks := tk }) :
    wpAny (model P w) A.in1 (Builtin.List.listExtendWith (.ref S) (.ref r) res)
      (fun f s' => match f with
        | .done g => R (.ok g) s'
        | .again d => d.quiet = true ∧ codeAny (model P w) A d R s') (fun e s' => R (.error e) s') s := by
  have ne1 : S ≠ r := fun z => by
    rw [z, isR] at hS
    simp at hS
  have lt1 : S < s.heap.objs.size := Heap.lt_size hS
  have ne2 : S ≠ s.heap.objs.size := Nat.ne_of_lt lt1
  have Wk := G.wk.toS
  have loop : ∀ (g : Heap) (k1 tk : Nat), St 0 g → (∀ b o, b ≠ S → s.heap.get? b = some o → g.get? b = some o) → g.get? S = some (mtL k1) →
      codeAny (model P w) A (.builtin "list.extend.loop" ⟨[.ref S, .ref s.heap.objs.size, res], []⟩) R { s with heap := g, toks := tk } := by
    intro g k1 tk g0 gk gS
    refine codeAny_extend_loopS Wk (by rw [sizeLine_eq]; omega) S (fun z => ne2 (List.mem_singleton.mp z)) res n 0 _ #[] k1 rfl (Nat.zero_le _) g0 gS (ItemsOf.nil _) fun s' its k mv eS hi => ?_
    rw [Moved.eq_with mv]
    refine fin s'.heap s'.toks its k (fun d o hd e => mv.heap d o (fun z => ?_) (gk d o hd e)) eS hi
    rcases List.mem_cons.mp z with z | z
    · exact hd z
    · rw [List.mem_singleton.mp z] at e
      exact Nat.lt_irrefl _ (Heap.lt_size e)
  unfold Builtin.List.listExtendWith
  refine wpAny_bind (wpAny_typeOf (T := "range") ⟨_, isR, rfl⟩ ?_)
  have n1 : Builtin.List.listSameRef (.ref S) (.ref r) = false := by
    simp [Builtin.List.listSameRef, ne1]
  have n2 : (Value.type "range" == Value.type "list") = false := by
    decide
  have n3 : (Value.type "range" == Value.type "tuple") = false := by
    decide
  simp only [n1, n2, n3, Bool.or_false, Bool.false_eq_true, if_false]
  refine wpAny_bind (G.go _ ?_)
  refine wpAny_bind (wpAny_holding (wpAny_hint_range (Heap.get?_push_of_some _ isR) sz le ?_))
  have i0 : (s.heap.push io).get? s.heap.objs.size = some io := Heap.get?_push_size _ G.nf
  have iS := Heap.get?_push_of_some io hS
  refine wpAny_ite_split (fun _ => ?_) (fun _ => wpAny_pure ⟨plainId_quiet F.plain_extend_loop _, loop _ k0 _ (G.st _ i0) (fun d o _ e => Heap.get?_push_of_some _ e) iS⟩)
  refine wpAny_bind (wpAny_rule (wpAny_bind ?_))
  show wpAny (model P w) A.in1 (updateSeq S (·.push .none) >>= fun _ => updateSeq S (·.pop)) _ _ _
  refine wpAny_bind (wpAny_updateSeq iS rfl ?_)
  have jS := Heap.get?_update_self (Obj.mapSeq (·.push Value.none)) iS rfl
  refine wpAny_updateSeq (hz := by seq_fits) jS rfl ?_
  have kS := Heap.get?_update_self (Obj.mapSeq (·.pop)) jS rfl
  refine wpAny_pure ⟨plainId_quiet F.plain_extend_loop _, loop _ _ _ (G.st _ ?_) (fun d o hd e => ?_) kS⟩
  · exact (Heap.get?_update_other _ _ ne2).trans ((Heap.get?_update_other _ _ ne2).trans i0)
  · exact (Heap.get?_update_other _ _ (Ne.symm hd)).trans ((Heap.get?_update_other _ _ (Ne.symm hd)).trans (Heap.get?_push_of_some _ e))
/-- the iterator of a range, small or not -/
theorem rg_it (hh : A.handled = none) {r : Addr} {a b c : Int} {t u v : Tok} {n : Nat} (isR : IsRange s.heap r a b c t u v) (sz : Builtin.Range.rangeSize a b c = n) : ∃ io St, RgIt P w A E s r a c n io St := by
  have e0 : a + ((0 : Nat) : Int) * c = a := by simp
  cases hb : Builtin.Range.small a b c with
  | true =>
    refine ⟨_, _, fun Q q => wpAny_pyIter_range isR hb q, Walks.range hh s.heap.objs.size a c n, fun h e => ?_, rfl⟩
    show IsRangeIter h s.heap.objs.size (a + ((0 : Nat) : Int) * c) ((n : Int) - ((0 : Nat) : Int)) c
    rw [e0, ← sz]
    simpa using e
  | false =>
    refine ⟨_, _, fun Q q => wpAny_pyIter_longrange isR hb q, Walks.longrange hh s.heap.objs.size a c n, fun h e => ?_, rfl⟩
    show IsLongIter h s.heap.objs.size (a + ((0 : Nat) : Int) * c) ((n : Int) - ((0 : Nat) : Int)) c
    rw [e0, ← sz]
    simpa using e
theorem init_rg {R : Result → Shared → Prop} {r S : Addr} {a b c : Int} {t u v : Tok} {n : Nat} (hh : A.handled = none) (isR : IsRange s.heap r a b c t u v) (sz : Builtin.Range.rangeSize a b c = n) (le : n ≤ 2 ^ 24) (hS : s.heap.get? S = some (mtL 0))
    (fin : ∀ (h' : Heap) (tk : Nat) (its : Array Value) (k : Nat), (∀ b o, b ≠ S → s.heap.get? b = some o → h'.get? b = some o) → h'.get? S = some { cls := .type "list", dict := none, data := .seq its k, slots := #[] } →
      ItemsOf (fun i v => ∃ t, v = .int (a + i * c) t) its n → R (.ok (.ret .none)) { s with heap := h', toks := tk }) :
    wpAny (model P w) A.in1 (Builtin.«list.__init__» ⟨[.ref S, .ref r], []⟩)
      (fun f s' => match f with
        | .done g => R (.ok g) s'
        | .again d => d.quiet = true ∧ codeAny (model P w) A d R s') (fun e s' => R (.error e) s') s := by
  have ne1 : S ≠ r := fun z => by
    rw [z, isR] at hS
    simp at hS
  show wpAny (model P w) A.in1 (do let was ← Builtin.List.listItems (.ref S); Builtin.List.listUpdate (.ref S) (fun _ => #[]); letGo was.toList.reverse; Builtin.List.listExtendWith (.ref S) (.ref r) .none) _ _ s
  refine wpAny_bind ?_
  unfold Builtin.List.listItems
  refine wpAny_bind (wpAny_seqItems hS rfl (wpAny_pure ?_))
  show wpAny (model P w) A.in1 (updateSeq S (fun _ => #[]) >>= fun _ => letGo (#[] : Array Value).toList.reverse >>= fun _ => Builtin.List.listExtendWith (.ref S) (.ref r) .none) _ _ s
  refine wpAny_bind (wpAny_updateSeq hS rfl ?_)
  have hS2 := Heap.get?_update_self (Obj.mapSeq (fun _ => (#[] : Array Value))) hS rfl
  have stay : ∀ d o, d ≠ S → s.heap.get? d = some o → (s.heap.update S (Obj.mapSeq (fun _ => (#[] : Array Value)))).get? d = some o := fun d o hd e => (Heap.get?_update_other _ _ (Ne.symm hd)).trans e
  refine wpAny_bind (wpAny_letGo ?_)
  have isR2 := stay r _ (Ne.symm ne1) isR
  obtain ⟨io, St, G⟩ := rg_it (P := P) (w := w) (A := A.in1) (E := fun e s' => R (.error e) s') (s := { s with heap := s.heap.update S (Obj.mapSeq (fun _ => (#[] : Array Value))) }) hh isR2 sz
  exact extend_rg isR2 G sz le hS2 fun h' tk its k hk e hi => fin h' tk its k (fun d o hd q => hk d o hd (stay d o hd q)) e hi
theorem list_rg {Q : Value → Shared → Prop} {r : Addr} {a b c : Int} {t u v : Tok} {n : Nat} (hh : A.handled = none) (isR : IsRange s.heap r a b c t u v) (sz : Builtin.Range.rangeSize a b c = n) (le : n ≤ 2 ^ 24)
    (fin : ∀ (h' : Heap) (tk : Nat) (its : Array Value) (k : Nat), (∀ b o, s.heap.get? b = some o → h'.get? b = some o) → h'.get? s.heap.objs.size = some { cls := .type "list", dict := none, data := .seq its k, slots := #[] } →
      ItemsOf (fun i v => ∃ t, v = .int (a + i * c) t) its n → Q (.ref s.heap.objs.size) { s with heap := h', toks := tk }) :
    wpAny (model P w) A (call (.type "list") [.ref r]) Q E s := by
  refine callType_codes (Q₁ := fun x s1 => x = .ref s.heap.objs.size ∧ s1 = { s with heap := s.heap.push (mtL 0) }) F.called_list (F.typeCall_list_1 _) F.entry_list_init
    (code_list_new _ ⟨rfl, rfl⟩) fun x s1 hx => ?_
  obtain ⟨rfl, rfl⟩ := hx
  have hS : (s.heap.push (mtL 0)).get? s.heap.objs.size = some (mtL 0) := Heap.get?_push_size _ rfl
  refine ⟨⟨_, hS, rfl⟩, F.args_list_init_2 _ _, ?_⟩
  refine init_rg (A := A.in1) hh (Heap.get?_push_of_some _ isR) sz le hS fun h' tk its k hk e hi => ?_
  exact ⟨rfl, fin h' tk its k (fun b o q => hk b o (Nat.ne_of_lt (Heap.lt_size q)) (Heap.get?_push_of_some _ q)) e hi⟩
end
end Kt
namespace Kt
open PySem PySem.Spec PyProof.Rows L2
section
variable {X : Cx} {a b c : Expr} {ta tb tc : TE}
/-- i, i + k, .. : n of them -/
def rgV3 (i k : Int) (n : Nat) : List V := (List.range n).map fun (m : Nat) => V.int (i + (m : Int) * k)
def tLR3 (ta tb tc : TE) : TE := fun σ H Q => ta σ H fun x H1 => tb σ H1 fun y H2 => tc σ H2 fun z H3 => ∃ (i j k : Int) (n : Nat), x = .int i ∧ y = .int j ∧ z = .int k ∧ CDivW (j - i) k ∧ Builtin.Range.rangeSize i j k = n ∧ n ≤ 2 ^ 24 ∧ ∀ q, H3 q = none → Q (.ref q) (upd H3 q (.lst (rgV3 i k n)))
theorem vals_rg3 {i k : Int} {n : Nat} {acc : Array Value} (h : ItemsOf (fun m v => ∃ t, v = .int (i + m * k) t) acc n) : Vals (rgV3 i k n) acc.toList := by
  have e : acc.toList.length = n := by rw [Array.length_toList]; exact h.1
  unfold rgV3
  rw [← e]
  refine vals_of_get acc.toList _ fun j u hj => ?_
  obtain ⟨t, rfl⟩ := h.2 j u (by rw [← hj, Array.getElem?_toList])
  exact ⟨t, rfl⟩
theorem pe_lrg3 {p p0 pos0 pos : Pos} (hc : X.calm = true) (hr : Gl X "range") (mr : X.mg "range" = none) (hl : Gl X "list") (ml : X.mg "list" = none) (ha : PE X a ta) (hb : PE X b tb) (hk : PE X c tc)
    (n1 : starEach [a, b, c] X.env = (false, eval a X.env) :: starEach [b, c] X.env := by rfl) (n2 : starEach [b, c] X.env = (false, eval b X.env) :: starEach [c] X.env := by rfl) (n3 : starEach [c] X.env = (false, eval c X.env) :: starEach [] X.env := by rfl)
    (h1 : (backTo pos0 (starEach [b, c] X.env)).any (·.1) = false := by rfl)
    (n4 : starEach [.Call (.Name "range" p0) [a, b, c] [] pos0] X.env = (false, eval (.Call (.Name "range" p0) [a, b, c] [] pos0) X.env) :: starEach [] X.env := by rfl) :
    PE X (.Call (.Name "list" p) [.Call (.Name "range" p0) [a, b, c] [] pos0] [] pos) (tLR3 ta tb tc) := by
  refine ⟨fun pins s σ H Q I h => ?_⟩
  have mk : wpAny (model X.prog X.w) X.A (eval (.Call (.Name "range" p0) [a, b, c] [] pos0) X.env) (fun x s1 => ∃ (r : Addr) (i j k : Int) (n : Nat) (t u v : Tok) (H3 : Hp), x = .ref r ∧ IsRange s1.heap r i j k t u v ∧ Inv X pins σ H3 s1 ∧ Builtin.Range.rangeSize i j k = n ∧ n ≤ 2 ^ 24 ∧ ∀ q, H3 q = none → Q (.ref q) (upd H3 q (.lst (rgV3 i k n)))) X.xe s := by
    refine Call_ (ld_blt I hr mr boot_range (PyProof.Rows.callWith_type1 (args_cons (thn (ha.run pins s σ H _ I h) fun v s1 ⟨x, H1, I1, r1, q1⟩ => args_cons (thn (hb.run pins s1 σ H1 _ I1 q1) fun u s2 ⟨y, H2, I2, r2, q2⟩ => args_cons (thn (hk.run pins s2 σ H2 _ I2 q2) fun z s3 ⟨z', H3, I3, r3, q3⟩ => args_nil ?_) n3) n2) n1) n1 h1))
    obtain ⟨i, j, k, n, rfl, rfl, rfl, hd, hn, hle, q⟩ := q3
    obtain ⟨t1, rfl⟩ := r1
    obtain ⟨t2, rfl⟩ := r2
    obtain ⟨t3, rfl⟩ := r3
    refine call_range_3 (by have := hd.1; omega) ?_ (.inl (PyProof.noPylong_of_log2 hd.2))
    exact ⟨_, i, j, k, n, _, _, _, H3, rfl, IsRange.new _ _ _ _ _ _ _, I3.kept fun b u e => Heap.get?_push_of_some _ e, hn, hle, q⟩
  refine Call_ (ld_blt I hl ml boot_list (PyProof.Rows.callWith_type1 (args_cons (thn mk fun x s1 hx => args_nil ?_) n4) n4))
  obtain ⟨r, i, j, k, n, t, u, v, H3, rfl, isR, I3, hn, hle, q⟩ := hx
  refine list_rg (I3.ok.hd hc) isR hn hle fun h' tk its c' hk' e' hi => ?_
  refine ⟨.ref s1.heap.objs.size, upd H3 s1.heap.objs.size (.lst (rgV3 i k n)), I3.laid hk' (Nat.le_refl _) (show ObjOk X.prog X.w _ _ _ (.lst (rgV3 i k n)) from ⟨?_, its.toList, c', vals_rg3 hi, ?_⟩), rfl, q _ (I3.hok.fresh (Nat.le_refl _))⟩
  · unfold rgV3
    rw [List.length_map, List.length_range, sizeLine_eq]
    omega
  · rw [Array.toArray_toList]
    exact e'
end
def lr3Q (Q : Qx) (x y z : Cell) (M : Mem) : Prop := match x, y, z with
  | .d (.int i), .d (.int j), .d (.int k) => ∃ n : Nat, CDivW (j - i) k ∧ Builtin.Range.rangeSize i j k = n ∧ n ≤ 2 ^ 24 ∧ Q (.r M.length) (M ++ [.live ((List.range n).map fun (m : Nat) => PyData.int (i + (m : Int) * k))])
  | _, _, _ => False
def pLRg3 (pa pb pc : Px) : Px := fun ρ M Q => pa ρ M fun x M1 => pb ρ M1 fun y M2 => pc ρ M2 fun z M3 => lr3Q Q x y z M3
theorem y_lrg3 {X : Cy} {a b c : Expr} {pa pb pc : Px} {p p0 pos0 pos : Pos} (hc : X.calm = true) (hg : Gl X "range") (hm : X.mg "range" = none) (hgl : Gl X "list") (hml : X.mg "list" = none) (ha : YE X a pa) (hb : YE X b pb) (hk : YE X c pc)
    (n1 : starEach [a, b, c] X.env = (false, eval a X.env) :: starEach [b, c] X.env := by rfl) (n2 : starEach [b, c] X.env = (false, eval b X.env) :: starEach [c] X.env := by rfl) (n3 : starEach [c] X.env = (false, eval c X.env) :: starEach [] X.env := by rfl)
    (h1 : (backTo pos0 (starEach [b, c] X.env)).any (·.1) = false := by rfl)
    (n4 : starEach [.Call (.Name "range" p0) [a, b, c] [] pos0] X.env = (false, eval (.Call (.Name "range" p0) [a, b, c] [] pos0) X.env) :: starEach [] X.env := by rfl) :
    YE X (.Call (.Name "list" p) [.Call (.Name "range" p0) [a, b, c] [] pos0] [] pos) (pLRg3 pa pb pc) := by
  obtain ⟨ta, a1, a2⟩ := ha
  obtain ⟨tb, b1, b2⟩ := hb
  obtain ⟨tc, c1, c2⟩ := hk
  refine ⟨_, pe_lrg3 hc hg hm hgl hml a1 b1 c1 n1 n2 n3 h1 n4, fun ρ M Qh h B as σ H Q S L W0 q => ?_⟩
  refine a2 ρ M _ h B as σ H _ S L W0 fun x M1 v B1 as1 H1 g1 e1 S1 o1 => ?_
  refine b2 ρ M1 _ g1 B1 as1 σ H1 _ S1 (L.mono e1) (W0.on e1) fun y M2 v2 B2 as2 H2 g2 e2 S2 o2 => ?_
  refine c2 ρ M2 _ g2 B2 as2 σ H2 _ S2 (L.mono (e1.trans e2)) (W0.on (e1.trans e2)) fun z M3 v3 B3 as3 H3 g3 e3 S3 o3 => ?_
  unfold lr3Q at g3
  split at g3
  · rename_i i j k
    obtain ⟨n, hd, hn, hle, hq⟩ := g3
    have z1 : v = .int i := by cases o1; rfl
    have z2 : v2 = .int j := by cases o2; rfl
    have z3 : v3 = .int k := by cases o3; rfl
    refine ⟨i, j, k, n, z1, z2, z3, hd, hn, hle, fun p np => ?_⟩
    obtain ⟨S', g', e'⟩ := S3.newL np (rp_map_ints (K := X.K) (B := B3) (fun m => i + (m : Int) * k) (List.range n))
    exact q _ _ _ _ _ _ hq (((e1.trans e2).trans e3).trans g') S' ⟨p, e', rfl⟩
  · cases g3
theorem w_lrg3 {pa pb pc : Px} {ρ : Rho} {M : Mem} {Q : Qx} (h : pa ρ M fun x M1 => pb ρ M1 fun y M2 => pc ρ M2 fun z M3 => lr3Q Q x y z M3) : pLRg3 pa pb pc ρ M Q := h
/-- a range of n items -/
theorem w_lrQ3 {M : Mem} {Q : Qx} {i k : Int} {n : Nat} (hd : 0 < k ∧ k < 10 ^ 100) (hn : n < 2 ^ 24) (h : Q (.r M.length) (M ++ [.live ((List.range (n + 1)).map fun (m : Nat) => PyData.int (i + (m : Int) * k))])) : lr3Q Q (.d (.int i)) (.d (.int (i + (n : Int) * k + 1))) (.d (.int k)) M := by
  refine ⟨n + 1, ⟨hd.1, ?_⟩, ?_, by omega, h⟩
  · by_cases h0 : k.natAbs = 0
    · rw [h0]; decide
    · refine (Nat.log2_lt h0).mpr (Nat.lt_trans (?_ : k.natAbs < 10 ^ 100) (by decide))
      have := hd.2
      omega
  · have p : 0 ≤ (n : Int) * k := Int.mul_nonneg (by omega) (by omega)
    unfold Builtin.Range.rangeSize
    rw [if_pos hd.1, if_pos (by omega), show i + (n : Int) * k + 1 - i - 1 = (n : Int) * k by omega, Int.mul_ediv_cancel _ (by omega)]
    rfl
end Kt

set_option Elab.async false
set_option linter.all false
set_option maxRecDepth 100000
set_option maxHeartbeats 2000000
namespace Kt
open PySem PySem.Spec PyProof.Rows L2
/-! ## sorted(d), d an own dict with int keys, any number of them -/
def rSoDR : List V → Hp → VK → Prop := fun xs H Q => ∃ (l : Addr) (kvs : List (Key × V)) (ks : List Int), xs = [.ref l] ∧ H l = some (.dK kvs) ∧ kvs.map (·.1) = ks.map Sum.inl ∧
  ∀ (ys : List Int) (q : Addr), ys.Perm ks → ys.Pairwise (· ≤ ·) → H q = none → Q (.ref q) (upd H q (.lst (ys.map V.int)))
theorem ints_keys {P : Program} {w : World} {vs : List (Key × Value)} {ks : List Int} (hk : vs.map (·.1) = ks.map Sum.inl) {out : List Value} (hl : out.length = vs.length)
    (h : ∀ (j : Nat) (v : Value), out[j]? = some v → ∃ (k : Key) (x : Value), vs[j]? = some (k, x) ∧ keyIs k v = true) : IntsAre out ks := by
  have l2 : vs.length = ks.length := by simpa using congrArg List.length hk
  refine ints_each (hl.trans l2) fun j v e => ?_
  obtain ⟨k, x, e1, e2⟩ := h j v e
  have e3 := congrArg (fun l : List Key => l[j]?) hk
  rw [List.getElem?_map, List.getElem?_map, e1] at e3
  cases e4 : ks[j]? with
  | none =>
    rw [e4] at e3
    cases e3
  | some y =>
    rw [e4] at e3
    have e5 : k = Sum.inl y := Option.some.inj e3
    rw [e5] at e2
    obtain ⟨i, t, z, ez⟩ | ⟨_, _, z, _⟩ := keyIs_shape e2
    · cases z
      exact ⟨y, t, rfl, ez⟩
    · cases z
theorem call_sortD {X : Cx} (hc : X.calm = true) : CallR X (.builtin "sorted") rSoDR := by
  intro pins s σ H xs us Q I r h
  obtain ⟨l, kvs, ks, rfl, hl, hk, q⟩ := h
  rw [Vals.ref1 r]
  obtain ⟨z, nm, vs, rel, dd⟩ := dk_of I.hok hl
  obtain ⟨ep, dat⟩ := dd.dictAt
  have kk : vs.map (·.1) = ks.map Sum.inl := rel.keys.symm.trans hk
  have zz : vs.length ≤ sizeLine := by
    rw [← rel.length]
    exact z
  refine Calls.call_function_entry kind_sorted plain_sorted entry_sorted (args_sorted1 _) ?_
  unfold Builtin.«sorted»
  refine wpAny_bind (m := checkCount "sorted" 1 1 _) (wpAny_pure (wpAny_bind ?_))
  refine PySem.W.kdu_collect (A := X.A.in1) (PySem.W.kdl_dict (knd := mixKind X.prog X.w) (kvs := vs) (ep := ep) nm) (I.ok.hd hc) dat zz fun g tk its gk hi => ?_
  have il : its.toList.length = vs.length := by
    rw [Array.length_toList]
    exact hi.1
  have ii : IntsAre its.toList ks := ints_keys (P := X.prog) (w := X.w) kk il fun j v e => hi.2 j v (by rw [← Array.getElem?_toList]; exact e)
  have I1 : Inv X pins σ H { s with heap := g, toks := tk } := I.kept gk
  refine wpAny_bind (wpAny_newList ?_ (by rw [il]; exact zz))
  have at0 : (g.push (seqObj "list" its.toList.toArray 0)).get? g.objs.size = some (seqObj "list" its.toList.toArray 0) := Heap.get?_push_size _ rfl
  show wpAny (model X.prog X.w) X.A.in1 _ _ _ { s with heap := g.push (seqObj "list" its.toList.toArray 0), toks := tk }
  refine wpAny_bind (wpAny_holding (wpAny_call_entry slot_list_sort ⟨_, at0, rfl⟩ entry_list_sort ?_ (args_list_sort _)))
  refine list_sort_treeAny (s := { s with heap := g.push (seqObj "list" its.toList.toArray 0), toks := tk }) at0 ii (by rw [il]; exact zz) fun out ys o1 o2 o3 => ⟨_, rfl, ?_⟩
  obtain ⟨m, atm⟩ := sortedHeap_at (vs := its.toList) (out := out) at0
  have yl : (ys.map V.int).length ≤ sizeLine := by
    rw [List.length_map, o2.length_eq, show ks.length = vs.length from by simpa using (congrArg List.length kk).symm]
    exact zz
  have ok : ObjOk X.prog X.w (upd H g.objs.size (.lst (ys.map V.int))) (sortedHeap (g.push (seqObj "list" its.toList.toArray 0)) g.objs.size its.toList out) g.objs.size (.lst (ys.map V.int)) :=
    ⟨yl, out.toList, m, vals_of_ints o1, by rw [Array.toArray_toList]; exact atm⟩
  refine wpAny_pure ⟨_, rfl, .ref g.objs.size, _, I1.laid (t' := tk) (fun b u e => ?_) (Nat.le_refl _) ok, rfl, q ys _ o2 o3 (I1.hok.fresh (Nat.le_refl _))⟩
  have lb : b < g.objs.size := Heap.lt_size e
  rw [sortedHeap_old (Nat.ne_of_lt lb) (by rw [size_push']; exact Nat.lt_succ_of_lt lb)]
  exact Heap.get?_push_of_some _ e
theorem rpkv_keys {K : PySem.W.Frag} {H : Hp} : ∀ {kvs : List (Key × V)} {ps : List (Int × PyData)}, RpKv K H kvs (ps.map fun p => (PyData.int p.1, p.2)) → kvs.map (·.1) = (ps.map (·.1)).map Sum.inl
  | _, [], .nil => rfl
  | _, (i, x) :: ps, h => by
    generalize e : ((i, x) :: ps).map (fun p => (PyData.int p.1, p.2)) = L at h
    cases h with
    | nil => cases e
    | @cons k v kvs d ds h r =>
      rw [List.map_cons] at e
      injection e with e1 e2
      injection e1 with e1 e3
      subst e2
      have := rpkv_keys r
      rw [List.map_cons, this, List.map_cons, List.map_cons]
      cases k with
      | inl j =>
        injection e1 with e1
        rw [← e1]
      | inr j => cases e1
def rSoD : Pr := fun cs M Q => match cs with
  | [.r n] => (match M[n]? with
    | some (.dc ps) => ∀ ys : List Int, ys.Perm (ps.map (·.1)) → ys.Pairwise (· ≤ ·) → Q (.r M.length) (M ++ [.live (ys.map .int)])
    | _ => False)
  | _ => False
theorem xc_sortD {X : Cy} (hc : X.calm = true) : YCl X (.builtin "sorted") rSoD := ⟨_, call_sortD hc, fun cs M Qh h B as vs H Q S o q => by
  unfold rSoD at h
  split at h
  · rename_i n
    obtain _ | ⟨o1, o2⟩ := o
    cases o2
    split at h
    · rename_i ps em
      obtain ⟨l, e1, rfl⟩ := o1
      obtain ⟨_, kvs, e2, e3⟩ := S.mc n _ l em e1
      refine ⟨l, kvs, ps.map (·.1), rfl, e2, rpkv_keys e3, fun ys p pm pw np => ?_⟩
      have ry : RpAll X.K B (ys.map V.int) (ys.map PyData.int) := RpAll.ofInts ys
      obtain ⟨S', g', e'⟩ := S.newL np ry
      exact q _ _ _ _ _ _ (h ys pm pw) g' S' ⟨p, e', rfl⟩
    · cases h
  · cases h⟩
theorem w_soD {n : Nat} {M : Mem} {Q : Qx} {ps : List (Int × PyData)} (m : M[n]? = some (.dc ps)) (h : ∀ ys : List Int, ys.Perm (ps.map (·.1)) → ys.Pairwise (· ≤ ·) → Q (.r M.length) (M ++ [.live (ys.map .int)])) : rSoD [.r n] M Q := by
  unfold rSoD
  dsimp only
  rw [m]
  exact h
end Kt

set_option Elab.async false
set_option linter.all false
set_option maxRecDepth 100000
set_option maxHeartbeats 2000000
namespace Kt
open PySem PySem.Spec PyProof.Rows L2
/-! ## (x, list): a pair whose list stays one's own -/
def tpQ (Q : Qx) (cs : List Cell) (M : Mem) : Prop := match cs with
  | [.d x, .r n] => Q (.t x n) M
  | _ => False
def pTupT (pa : Pa) : Px := fun ρ M Q => pa ρ M fun cs M1 => tpQ Q cs M1
theorem sim_tupT {Z : Wi} {ta : TA} {pa : Pa} (h : SimA Z ta pa) : Sim Z (tTup ta) (pTupT pa) := fun ρ M Qh hp B as σ H Q S L W0 q => h ρ M _ hp B as σ H _ S L W0 fun cs M1 vs B1 as1 H1 h1 g1 S1 o1 => by
  unfold tpQ at h1
  split at h1
  · rename_i x n
    obtain _ | ⟨o1, _ | ⟨o2, _ | _⟩⟩ := o1
    obtain ⟨l, e, rfl⟩ := o2
    refine ⟨show 2 ≤ sizeLine by decide, fun a na => ?_⟩
    obtain ⟨S3, g3⟩ := S1.new (o := .tup _) na
    exact q _ M1 _ _ _ _ h1 (g1.trans g3) S3 ⟨a, _, l, rfl, .inl (.inl upd_same), Rp.mono g3.b o1, e⟩
  · cases h1
theorem y_tupT {X : Cy} {es : List Expr} {pa : Pa} {x1} {pos : Pos} (h : YA X es pa) : YE X (.Tuple es x1 pos) (pTupT pa) := let ⟨_, h1, h2⟩ := h; ⟨_, pe_tup h1, sim_tupT h2⟩
theorem w_tupT {pa : Pa} {ρ : Rho} {M : Mem} {Q : Qx} (h : pa ρ M fun cs M1 => tpQ Q cs M1) : pTupT pa ρ M Q := h
theorem w_tpQ {x : PyData} {n : Nat} {M : Mem} {Q : Qx} (h : Q (.t x n) M) : tpQ Q [.d x, .r n] M := h
/-! p[0], p[1] -/
def pIxT : Pr2 := fun x y M Q => match x, y with
  | .t x _, .d (.int 0) => Q (.d x) M
  | .t _ n, .d (.int 1) => Q (.r n) M
  | _, _ => False
theorem simR_ixT {K : PySem.W.Frag} : SimR K (rIx K) pIxT := fun cx cy M Qh h B as x y H Q S ox oy q => by
  unfold pIxT at h
  split at h
  · obtain ⟨a, u, l, rfl, sq, ru, el⟩ := ox
    cases (show Rp K B y (.int 0) from oy)
    exact .inr (.inl ⟨a, [u, .ref l], 0, u, rfl, rfl, sqT_mono S.sub sq, rfl, q _ M _ B as H h S.gr S ru⟩)
  · obtain ⟨a, u, l, rfl, sq, ru, el⟩ := ox
    cases (show Rp K B y (.int 1) from oy)
    exact .inr (.inl ⟨a, [u, .ref l], 1, .ref l, rfl, rfl, sqT_mono S.sub sq, rfl, q _ M _ B as H h S.gr S ⟨l, el, rfl⟩⟩)
  · cases h
theorem y_ixT {X : Cy} {a b : Expr} {pa pb : Px} {pos : Pos} (ha : YE X a pa) (hb : YE X b pb) (hs : PlainIx b := by exact fun _ _ => rfl) : YE X (.Subscript a b pos) (pBin pIxT pa pb) := by
  obtain ⟨ta, a1, a2⟩ := ha
  obtain ⟨tb, b1, b2⟩ := hb
  exact ⟨_, pe_ix ix_seq a1 b1 hs, sim_op simR_ixT a2 b2⟩
theorem w_ixT0 {x : PyData} {n : Nat} {M : Mem} {Q : Qx} (h : Q (.d x) M) : pIxT (.t x n) (.d (.int 0)) M Q := h
theorem w_ixT1 {x : PyData} {n : Nat} {M : Mem} {Q : Qx} (h : Q (.r n) M) : pIxT (.t x n) (.d (.int 1)) M Q := h
/-! i, j = p -/
def gTpT (i j : Nat) : Pg := fun c ρ M Q => match c with
  | .t x n => Q ((ρ.set i (some (.d x))).set j (some (.r n))) M
  | _ => False
theorem simG_tupT {Z : Wi} {i j : Nat} : SimG Z (gTup Z.K 2 (gCons (gName i) (gCons (gName j) gNil))) (gTpT i j) := fun c ρ M Qh h B as v σ H Q S L o W0 q => by
  unfold gTpT at h
  split at h
  · rename_i x n
    obtain ⟨a, u, l, rfl, sq, ru, el⟩ := o
    exact ⟨a, [u, .ref l], rfl, sqT_mono S.sub sq, rfl, _, _, rfl, _, _, rfl, rfl, q _ M B as _ H h S.gr S ((L.set (c := .d x) ru).set (c := .r n) ⟨l, el, rfl⟩)⟩
  · cases h
theorem yg_tupT {X : Cy} {i j : Nat} {x y : Str} {k : Nat} {p1 p2 pos : Pos} (hc : X.calm = true) (hN : X.N.Nodup) (hi : X.N[i]? = some x) (hj : X.N[j]? = some y) (lx : Loc X.env.scope x) (ly : Loc X.env.scope y)
    (fx : X.fn x = true ∨ X.env.scope.names.lookup x = some .local := by first | exact .inl rfl | exact .inr rfl | assumption) (fy : X.fn y = true ∨ X.env.scope.names.lookup y = some .local := by first | exact .inl rfl | exact .inr rfl | assumption)
    (h1 : (assignEach (.Name x p1 :: [.Name y p2]) X.env).map (·.2) = assign (.Name x p1) X.env :: (assignEach [.Name y p2] X.env).map (·.2) := by rfl)
    (h2 : (assignEach (.Name y p2 :: []) X.env).map (·.2) = assign (.Name y p2) X.env :: (assignEach [] X.env).map (·.2) := by rfl)
    (hn : (assignEach [.Name x p1, .Name y p2] X.env).length = 2 := by rfl) (hst : (assignEach [.Name x p1, .Name y p2] X.env).findIdx? (·.1) = none := by rfl) : YG X (.Tuple [.Name x p1, .Name y p2] k pos) (gTpT i j) :=
  ⟨_, pg_tup hc (pgs_cons (pg_name hN hi lx fx) (pgs_cons (pg_name hN hj ly fy) pgs_nil h2) h1) hn hst, simG_tupT⟩
theorem w_gTpT {i j : Nat} {x : PyData} {n : Nat} {ρ : Rho} {M : Mem} {R : Rho → Mem → Prop} (h : R ((ρ.set i (some (.d x))).set j (some (.r n))) M) : gTpT i j (.t x n) ρ M R := h
/-- a def hands back such a pair -/
def retT (Q : Qx) (x : PyData) (ys : List PyData) : Prop := ∀ (k : Nat) M, M[k]? = some (.live ys) → Q (.t x k) M
theorem w_retT {x : PyData} {ys : List PyData} {Q : Qx} {M : Mem} (h : Q (.t x M.length) (M ++ [.live ys])) : retT (back Q M) x ys := fun k M' e => by
  unfold back
  dsimp only
  rw [e]
  exact h
end Kt

set_option Elab.async false
set_option linter.all false
set_option maxRecDepth 100000
set_option maxHeartbeats 2000000
namespace Kt
open PySem PySem.Spec PyProof.Rows L2
/-! ## x in a list -/
def inLR (neg : Bool) (K : PySem.W.Frag) : R2 := fun x y H Q => ∃ d ds, Dp K H x d ∧ Dp K H y (.list ds) ∧ (SeqAt.shaped d = true ∧ SeqAt.shaped (.list ds) = true) ∧ d.depth ≤ 40 ∧ Q (.bl (xor neg (ds.any fun z => PyData.eqv z d))) H
theorem lay_in {ds : List PyData} (h : SeqAt.shaped (.list ds) = true) : PyData.canLayAll0 ds = true := by
  have := SeqAt.canLay_of_shaped h
  simpa [PyData.canLay0] using this
theorem op_inL {X : Cx} (hu : X.A.units + 64 < cLine) : OpR X (compareOp .In) (inLR false X.K) := by
  intro pins s σ H x y v u Q I rx ry h
  obtain ⟨d, ds, hd, he, ⟨sd, se⟩, dd, q⟩ := h
  obtain ⟨as, a1⟩ := Dp.reads I d x v hd rx
  obtain ⟨bs, b1⟩ := Dp.reads I (.list ds) y u he ry
  rw [Bool.false_xor] at q
  refine SeqAt.in_list_reads b1 a1 (lay_in se) (SeqAt.canLay_of_shaped sd) ?_ ⟨.bl _, H, I, rfl, q⟩
  have : min (PyData.depthAll ds) d.depth ≤ d.depth := Nat.min_le_right _ _
  omega
theorem op_notInL {X : Cx} (hu : X.A.units + 64 < cLine) : OpR X (compareOp .NotIn) (inLR true X.K) := by
  intro pins s σ H x y v u Q I rx ry h
  obtain ⟨d, ds, hd, he, ⟨sd, se⟩, dd, q⟩ := h
  obtain ⟨as, a1⟩ := Dp.reads I d x v hd rx
  obtain ⟨bs, b1⟩ := Dp.reads I (.list ds) y u he ry
  rw [Bool.true_xor] at q
  refine SeqAt.notIn_list_reads b1 a1 (lay_in se) (SeqAt.canLay_of_shaped sd) ?_ ⟨.bl _, H, I, rfl, q⟩
  have : min (PyData.depthAll ds) d.depth ≤ d.depth := Nat.min_le_right _ _
  omega
def pInL (neg : Bool) : Pr2 := fun x y M Q => match derefS x M, derefS y M with
  | some d, some (.list ds) => (Shd d (.list ds) ∧ d.depth ≤ 40) ∧ Q (.d (.bool (xor neg (ds.any fun z => PyData.eqv z d)))) M
  | _, _ => False
theorem simR_inL {neg : Bool} {K : PySem.W.Frag} : SimR K (inLR neg K) (pInL neg) := fun cx cy M Qh h B as x y H Q S ox oy q => by
  unfold pInL at h
  split at h
  · rename_i d ds e1 e2
    exact ⟨d, ds, derefS_ok S ox e1 h.1.1.1, derefS_ok S oy e2 h.1.1.2, h.1.1, h.1.2, q _ M _ B as H h.2 S.gr S (.bl _)⟩
  · cases h
theorem xo_inL {X : Cy} {k : Nat} (hr : Room k X.A) : YOp X (compareOp .In) (pInL false) := ⟨inLR false X.K, op_inL hr.units, simR_inL⟩
theorem xo_ninL {X : Cy} {k : Nat} (hr : Room k X.A) : YOp X (compareOp .NotIn) (pInL true) := ⟨inLR true X.K, op_notInL hr.units, simR_inL⟩
theorem w_inL {neg : Bool} {x y : Cell} {M : Mem} {Q : Qx} {d : PyData} {ds : List PyData} (hx : derefS x M = some d) (hy : derefS y M = some (.list ds)) (s : Shd d (.list ds)) (dd : d.depth ≤ 40) {b : Bool} (e : (ds.any fun z => PyData.eqv z d) = b) (h : Q (.d (.bool (xor neg b))) M) : pInL neg x y M Q := by
  unfold pInL
  rw [hx, hy]
  subst e
  exact ⟨⟨s, dd⟩, h⟩
theorem any_int {is : List Int} {i : Int} : ((is.map PyData.int).any fun z => PyData.eqv z (.int i)) = decide (i ∈ is) := by
  induction is with
  | nil => rfl
  | cons x r ih =>
    rw [List.map_cons, List.any_cons, ih]
    have e : PyData.eqv (.int x) (.int i) = decide (x = i) := by by_cases h : x = i <;> simp [PyData.eqv, h]
    rw [e]
    by_cases h : x = i
    · subst h
      simp
    · have h' : ¬ i = x := fun z => h z.symm
      simp [h, h']
/-- an int in a list of ints -/
theorem w_inLI {neg : Bool} {y : Cell} {M : Mem} {Q : Qx} {i : Int} {is : List Int} (hy : derefS y M = some (.list (is.map .int))) (h : Q (.d (.bool (xor neg (decide (i ∈ is))))) M) : pInL neg (.d (.int i)) y M Q :=
  w_inL rfl hy (Fl.sh (n := 0) .int (.lst (n := 0) Fl.ints) (by decide) (by decide)) (Nat.zero_le _) any_int h
end Kt

set_option Elab.async false
set_option linter.all false
set_option maxRecDepth 100000
set_option maxHeartbeats 2000000
namespace Kt
open PySem PySem.Spec PyProof.Rows L2
/-! ## d.get(k, x) of one's own dict -/
def getQ (Q : Qx) (c k z : Cell) (M : Mem) : Prop := match deref c M, k with
  | some (.dict ps), .d (.int i) => (match dGet ps i with
    | some d => Q (.d d) M
    | none => Q z M)
  | _, _ => False
def pGetO (pd py pz : Px) : Px := fun ρ M Q => pd ρ M fun c M1 => (∃ ps, deref c M1 = some (.dict ps)) ∧ py ρ M1 fun y M2 => (∃ i, y = .d (.int i)) ∧ pz ρ M2 fun z M3 => getQ Q c y z M3
theorem y_getO {X : Cy} {k : Nat} {o e f : Expr} {apos cpos : Pos} {pd py pz : Px} (hr : Room k X.A) (ho : YE X o pd) (he : YE X e py) (hf : YE X f pz) (m : M2 X o "get" apos e f cpos) : YE X (.Call (.Attribute o "get" apos) [e, f] [] cpos) (pGetO pd py pz) := by
  obtain ⟨td, d1, d2⟩ := ho
  obtain ⟨ty, e1, e2⟩ := he
  obtain ⟨tz, f1, f2⟩ := hf
  refine ⟨_, pe_dget2 (by have := hr.units; omega) d1 e1 f1 m, fun ρ M Qh h B as σ H Q S L W0 q => ?_⟩
  refine d2 ρ M _ h B as σ H _ S L W0 fun c M1 v B1 as1 H1 h1 g1 S1 o1 => ?_
  obtain ⟨⟨ps1, ed1⟩, h1⟩ := h1
  obtain ⟨a, kvs1, rfl, hl1, _⟩ := deref_dict S1 o1 ed1
  refine ⟨a, rfl, .inl ⟨kvs1, .inl hl1⟩, ?_⟩
  refine e2 ρ M1 _ h1 B1 as1 σ H1 _ S1 (L.mono g1) (W0.on g1) fun c2 M2 v2 B2 as2 H2 h2 g2 S2 o2 => ?_
  obtain ⟨⟨i, rfl⟩, h2⟩ := h2
  have ev : v2 = .int i := by cases (show Rp X.K B2 v2 (.int i) from o2); rfl
  subst ev
  refine f2 ρ M2 _ h2 B2 as2 σ H2 _ S2 ((L.mono g1).mono g2) (W0.on (g1.trans g2)) fun c3 M3 v3 B3 as3 H3 h3 g3 S3 o3 => ?_
  have gg := (g1.trans g2).trans g3
  unfold getQ at h3
  split at h3
  · rename_i ps j ed ej
    cases ej
    obtain ⟨a', kvs, ea, hl, rk⟩ := deref_dict S3 ((o1.mono g2).mono g3) ed
    cases ea
    refine ⟨_, DGet.k (k := (Sum.inl i : Key)) hl, ?_⟩
    rcases rpkv_get rk i with ⟨a1, a2⟩ | ⟨v, d, a1, a2, a3⟩
    · rw [a2] at h3
      rw [a1]
      exact q _ _ _ _ _ _ h3 gg S3 o3
    · rw [a2] at h3
      rw [a1]
      exact q _ _ _ _ _ _ h3 gg S3 a3
  · cases h3
theorem w_getO {pd py pz : Px} {ρ : Rho} {M : Mem} {Q : Qx} (h : pd ρ M fun c M1 => (∃ ps, deref c M1 = some (.dict ps)) ∧ py ρ M1 fun y M2 => (∃ i, y = .d (.int i)) ∧ pz ρ M2 fun z M3 => getQ Q c y z M3) : pGetO pd py pz ρ M Q := h
theorem isdc {n : Nat} {M : Mem} {ps : List (Int × PyData)} (m : M[n]? = some (.dc ps)) : ∃ qs, deref (.r n) M = some (.dict qs) := ⟨dcK ps, by unfold deref; dsimp only; rw [m]⟩
theorem w_getOI {n : Nat} {i : Int} {M : Mem} {Q : Qx} {z : Cell} {ps : List (Int × PyData)} (m : M[n]? = some (.dc ps)) (h : (match dG ps i with
    | some d => Q (.d d) M
    | none => Q z M)) : getQ Q (.r n) (.d (.int i)) z M := by
  unfold getQ deref
  dsimp only
  rw [m]
  dsimp only
  rw [dGet_dcK]
  exact h
end Kt

set_option Elab.async false
set_option linter.all false
set_option maxRecDepth 100000
set_option maxHeartbeats 2000000
namespace Kt
open PySem PySem.Spec PyProof.Rows L2
/-! ## a call by names within a try body; an own class without __init__ at the end; min of rows by their first number -/
theorem y_cdKT {X : Cy} {pn : List (Addr × Obj)} {xe : Value → Shared → Prop} {W : WX} {Wh : Xc → Rho → Mem → Prop} {x : Str} {st : Stmt} {ps ks : List Str} {ix : List Nat} {k : Nat} {g : Gs} {kws : List Keyword} {pa : Pa} {p pos : Pos} (d : DefOk X.prog X.w X.K X.mg X.base x st ps k g) (hp : ps ≠ []) (b : bindsK x st ps ks ix) (hgu : X.A.guards = some []) (hr : Room k X.A) (gl : Gl X x) (tk : Takes (X.toCx.tr pn xe) W)
    (hkw : YK (trY X pn xe W Wh) kws pa) (hall : (backToKw pos (keywordEach kws X.env)).all (·.1.isSome) = true := by rfl) (hks : (backToKw pos (keywordEach kws X.env)).filterMap (·.1) = ks := by rfl)
    (hdb : (x == ("__debug__" : Str)) = false := by decide) (hpl : ((backTo pos (starEach [] X.env)).any (·.1) || (backToKw pos (keywordEach kws X.env)).any (·.1.isNone)) = false := by rfl) :
    YE (trY X pn xe W Wh) (.Call (.Name x p) [] kws pos) (pCallK ps.length ix g Wh pa) := y_cdK (X := trY X pn xe W Wh) d hp b hgu hr gl tk hkw hall hks hdb hpl
theorem errS_mk {K : PySem.W.Frag} {h : Heap} {mg : Str → Option Value} {x : Str} (X : K.In h) (G : h.Ns mainGlobals mg) {C : Addr} {bm : List Value} (aC : PySem.W.nsIn K mainGlobals x = some (some (.ref C)))
    (kC : PySem.W.keepIn K (.ref C) = true) (xC : PySem.W.excIn K C bm "ValueError.__new__" = true) (bC : PySem.W.subIn K (.ref C) (.type "BaseException") = some true) (tC : PySem.W.typeIn K (.ref C) = some (.type "type")) : ErrS K mg x C bm :=
  ⟨PySem.W.mg_of X G aC, kC, xC, bC, tC⟩
/-- of two rows that begin with different numbers the first number decides -/
theorem lt_row {a b : Int} (xs ys : List PyData) (h : a ≠ b) : PySem.W.dataLt (.tuple (.int a :: xs)) (.tuple (.int b :: ys)) = decide (a < b) := by
  rw [PySem.W.dataLt_tuple, PySem.W.dataLt_all_no (by simp [PySem.W.alike]) (by simpa [PyData.eqv] using h), PySem.W.dataLt_int]
theorem minD_row {α : Type} (f : α → Int) (g : α → List PyData) : ∀ (l : List α) (x : α), ∃ y, y ∈ x :: l ∧ PySem.W.minD (.tuple (.int (f x) :: g x)) (l.map fun y => .tuple (.int (f y) :: g y)) = .tuple (.int (f y) :: g y) ∧ ∀ z ∈ x :: l, f y ≤ f z
  | [], x => ⟨x, List.mem_cons_self, rfl, fun z hz => by rcases List.mem_cons.mp hz with rfl | hz; exact Int.le_refl _; cases hz⟩
  | z :: l, x => by
    cases hb : PySem.W.dataLt (.tuple (.int (f z) :: g z)) (.tuple (.int (f x) :: g x)) with
    | true =>
      obtain ⟨y, hy, e, hm⟩ := minD_row f g l z
      have hzx : f z ≤ f x := by
        by_cases hq : f z = f x
        · omega
        · rw [lt_row _ _ hq, decide_eq_true_eq] at hb
          omega
      refine ⟨y, List.mem_cons_of_mem _ hy, ?_, fun w hw => ?_⟩
      · rw [← e, List.map_cons]
        unfold PySem.W.minD
        rw [List.foldl_cons, if_pos hb]
      · rcases List.mem_cons.mp hw with rfl | hw
        · exact Int.le_trans (hm z List.mem_cons_self) hzx
        · exact hm w hw
    | false =>
      obtain ⟨y, hy, e, hm⟩ := minD_row f g l x
      have hzx : f x ≤ f z := by
        by_cases hq : f z = f x
        · omega
        · rw [lt_row _ _ hq, decide_eq_false_iff_not] at hb
          omega
      refine ⟨y, ?_, ?_, fun w hw => ?_⟩
      · rcases List.mem_cons.mp hy with rfl | hy
        · exact List.mem_cons_self
        · exact List.mem_cons_of_mem _ (List.mem_cons_of_mem _ hy)
      · rw [← e, List.map_cons]
        unfold PySem.W.minD
        rw [List.foldl_cons, if_neg (by rw [hb]; exact Bool.false_ne_true)]
      · rcases List.mem_cons.mp hw with rfl | hw
        · exact hm w List.mem_cons_self
        rcases List.mem_cons.mp hw with rfl | hw
        · exact Int.le_trans (hm x List.mem_cons_self) hzx
        · exact hm w (List.mem_cons_of_mem _ hw)
/-! ## a def whose last parameter has the default False, called with all arguments -/
def bindsF (x : Str) (st : Stmt) (ps : List Str) : Prop := ∀ (T : Addr) (kV doc pm : Value) (an : Option Addr) (cdv ct : Value) (us its : List Value), us.length = ps.length → its.length = 1 →
  ∃ k, bindArgs (PySem.W.fnOf x x (defArgs st) (defBody st) (defScope st) (.ref T) kV doc pm an cdv ct) ⟨us, []⟩ = seqItems? (.ref T) >>= k ∧ k (some its.toArray) = pure (ps.zip (us ++ its.drop 1))
theorem binds_full {K : PySem.W.Frag} {x : Str} {st : Stmt} {f : Addr} {fd : FuncData} {ps : List Str} (F : FunB K x st f fd) (b : bindsF x st ps) : Binds K fd ps [] := by
  obtain ⟨ds, hd, hb⟩ := FunD.binds1 F ps.length 1 (by simp) (by simp) b
  cases hd
  exact hb
section
variable {X : Cy} {k : Nat} {g : Gs} {ps : List Str} {x : Str} {st : Stmt} {p pos : Pos} {e : Expr} {es : List Expr} {pa : Pa}
theorem y_cdF (d : DefOkB X.prog X.w X.K X.mg X.base x st ps k g) (b : bindsF x st ps) (hgu : X.A.guards = some []) (hr : Room k X.A) (gl : Gl X x) (tk : Takes X X.W)
    (ha : YA X (e :: es) pa) (hdb : (x == ("__debug__" : Str)) = false := by decide) (he : starEach (e :: es) X.env = (false, eval e X.env) :: starEach es X.env := by rfl) (hpl : (backTo pos (starEach es X.env)).any (·.1) = false := by rfl) :
    YE X (.Call (.Name x p) (e :: es) [] pos) (pCall ps.length g X.Wh pa) := let ⟨_, _, h1, h2, h3⟩ := d; y_call h2 hgu hr gl h3 h1.kp (binds_full h1 b) tk ha hdb he hpl
end
theorem w_raS {C : Addr} {Wh : Xc → Rho → Mem → Prop} {d : PyData} {D : En} {ρ : Rho} {M : Mem} (h : Wh ⟨C, none⟩ ρ M) : pRaise C (fun _ => some none) Wh (pC d) D ρ M := h
/-! ## max of one list -/
def rMaxD : Pr := fun cs M Q => match cs with
  | [c] => (match deref c M with
    | some (.list (x :: xs)) => (PySem.W.AlikeAll (x :: xs) ∧ PyData.canLay0 (.list (x :: xs)) = true ∧ (PyData.list (x :: xs)).depth ≤ 40) ∧ Q (.d (PySem.W.maxD x xs)) M
    | _ => False)
  | _ => False
section
variable {X : Cy}
def rMaxR (K : PySem.W.Frag) : List V → Hp → VK → Prop := fun vs H Q => ∃ (l : Addr) (ws : List V) (x : PyData) (xs : List PyData), vs = [.ref l] ∧ H l = some (.lst ws) ∧ DpAll K H ws (x :: xs) ∧ PySem.W.AlikeAll (x :: xs) ∧ PyData.canLay0 (.list (x :: xs)) = true ∧ (PyData.list (x :: xs)).depth ≤ 40 ∧
  ∀ (i : Nat) (v : V), ws[i]? = some v → (x :: xs)[i]? = some (PySem.W.maxD x xs) → Q v H
theorem call_maxR {k : Nat} (room : Room k X.A) (hc : X.calm = true) : CallR X (.builtin "max") (rMaxR X.K) := by
  intro pins s σ H vs us Q I r h
  obtain ⟨l, ws, x, xs, rfl, hl, hd, ha, hcl, hdp, q⟩ := h
  have hs : SqL X.K H l ws := .inl (.inl hl)
  obtain ⟨its, rv, pl, hz⟩ := I.list hs
  rw [Vals.ref1 r]
  obtain ⟨as, hr⟩ := Dp.readsAll I (x :: xs) ws its hd rv
  have hu : X.A.units + 1 + PyData.depthAll (x :: xs) < cLine := by
    have h1 := room.units
    simp only [PyData.depth] at hdp
    omega
  refine PySem.W.max_list_data (I.ok.hd hc) pl.isList (by simpa using hr) ha hu fun i v h' tk bs hv rd hk => ?_
  obtain ⟨wv, e1, rv1⟩ : ∃ wv, ws[i]? = some wv ∧ RelV wv v := by
    have hv' : its[i]? = some v := by simpa using hv
    cases e : ws[i]? with
    | none => rw [rv.none_of e] at hv'; cases hv'
    | some wv =>
      obtain ⟨u, h1, h2⟩ := rv.get e
      rw [hv'] at h1
      cases h1
      exact ⟨wv, rfl, h2⟩
  refine ⟨wv, H, I.kept hk, rv1, q i wv e1 ?_⟩
  obtain ⟨bs', rd', _, _, _⟩ := PySem.W.readsAll_atA (vs := its.toArray) (xs := x :: xs) (by simpa using hr) i v hv
  have eq1 := (PySem.Reads.unique (Reads.keeps hk rd') _ _ rd).1
  have hi : i < (x :: xs).length := by
    have hw := (List.getElem?_eq_some_iff.mp e1).1
    have := dpAll_len hd
    omega
  rw [← eq1, List.getD_eq_getElem?_getD, List.getElem?_eq_getElem hi] <;> rfl
theorem xc_maxD {k : Nat} (room : Room k X.A) (hc : X.calm = true) : YCl X (.builtin "max") rMaxD := by
  refine ⟨_, call_maxR room hc, fun cs M Qh h B as vs H Q S o q => ?_⟩
  unfold rMaxD at h
  split at h
  · rename_i c
    obtain _ | ⟨o1, _ | _⟩ := o
    split at h
    · rename_i x xs e
      obtain ⟨l, ws, rfl, hl, r⟩ := deref_list S o1 e
      have cl : PyData.canLayAll0 (x :: xs) = true := by simpa [PyData.canLay0] using h.1.2.1
      refine ⟨l, ws, x, xs, rfl, hl, (r.mono S.sub).dp cl, h.1.1, h.1.2.1, h.1.2.2, fun i v e1 e2 => ?_⟩
      obtain ⟨v', h1, h2⟩ := r.get e2
      rw [e1] at h1
      cases h1
      exact q _ M _ B as H h.2 S.gr S h2
    · cases h
  · cases h
end
section
variable {ρ : Rho} {M : Mem} {Q : Qx} {pe : Px} {xs : List PyData}
theorem w_maxD {c : Cell} {x z : PyData} (m : deref c M = some (.list (x :: xs))) (ha : PySem.W.AlikeAll (x :: xs)) (hf : Fl 40 (.list (x :: xs))) (e : PySem.W.maxD x xs = z) (h : Q (.d z) M) : rMaxD [c] M Q := by
  unfold rMaxD
  dsimp only
  rw [m]
  subst e
  exact ⟨⟨ha, hf.lay, hf.dep⟩, h⟩
end
/-! ## a, b, c = a list -/
def gTpL (n : Nat) (gs : Pgs) : Pg := fun c ρ M Q => match deref c M with
  | some (.list xs) => xs.length = n ∧ gs xs ρ M Q
  | _ => False
theorem simG_lst {Z : Wi} {n : Nat} {tgs : TGs} {gs : Pgs} (h1 : SimGs Z tgs gs) : SimG Z (gLst Z.K n tgs) (gTpL n gs) := fun c ρ M Qh h B as v σ H Q S L o W0 q => by
  unfold gTpL at h
  split at h
  · rename_i xs e
    obtain ⟨l, ws, rfl, hl, r⟩ := deref_list S o e
    exact ⟨l, ws, rfl, .inl (.inl hl), by rw [r.len]; exact h.1, h1 xs ρ M Qh h.2 B as ws σ H Q S L r W0 q⟩
  · cases h
theorem yg_lst {X : Cy} {es : List Expr} {gs : Pgs} {k n : Nat} {pos : Pos} (hc : X.calm = true) (h : YGs X es gs) (hn : (assignEach es X.env).length = n := by rfl) (hst : (assignEach es X.env).findIdx? (·.1) = none := by rfl) : YG X (.Tuple es k pos) (gTpL n gs) :=
  let ⟨_, a1, a2⟩ := h; ⟨_, pg_lst hc a1 hn hst, simG_lst a2⟩
theorem w_tpL {n : Nat} {gs : Pgs} {c : Cell} {ρ : Rho} {M : Mem} {xs : List PyData} {R : Rho → Mem → Prop} (e : deref c M = some (.list xs)) (hn : xs.length = n) (h : gs xs ρ M R) : gTpL n gs c ρ M R := by
  unfold gTpL
  rw [e]
  exact ⟨hn, h⟩
/-! ## max of three ints -/
def rI3 (g : Int → Int → Int → PyData) : Pr := fun cs M Q => match cs with
  | [.d (.int i), .d (.int j), .d (.int k)] => Q (.d (g i j k)) M
  | _ => False
theorem nu_max3 {i j k : Int} : nuMax3 (.int i) (.int j) (.int k) = some (.int (max (max i j) k)) := by
  have e2 : ∀ a b : Int, nuMax2 (.int a) (.int b) = some (.int (max a b)) := fun a b => by
    show some (if decide (a < b) = true then V.int b else V.int a) = some (.int (max a b))
    by_cases h : a < b
    · rw [if_pos (decide_eq_true h), show max a b = b by omega]
    · rw [if_neg (by simpa using h), show max a b = a by omega]
  show ((nuMax2 (.int i) (.int j)).bind fun m => nuMax2 m (.int k)) = _
  rw [e2]
  exact e2 _ _
theorem xc_max3 {X : Cy} (hc : X.calm = true) : YCl X (.builtin "max") (rI3 fun i j k => .int (max (max i j) k)) := by
  refine ⟨_, call_max3Nu hc, fun cs M Qh h B as vs H Q S o q => ?_⟩
  unfold rI3 at h
  split at h
  · rename_i i j k
    obtain _ | ⟨o1, _ | ⟨o2, _ | ⟨o3, _ | _⟩⟩⟩ := o
    cases (show Rp X.K B _ (.int i) from o1)
    cases (show Rp X.K B _ (.int j) from o2)
    cases (show Rp X.K B _ (.int k) from o3)
    exact ⟨_, _, _, _, rfl, nu_max3, q _ M _ B as H h S.gr S (.int _)⟩
  · cases h
theorem w_i3 {f : Int → Int → Int → PyData} {i j k : Int} {M : Mem} {Q : Qx} (h : Q (.d (f i j k)) M) : rI3 f [.d (.int i), .d (.int j), .d (.int k)] M Q := h
/-! ## b is True, b is not True -/
def pIsB : Pr2 := fun x y M Q => match x, y with
  | .d (.bool a), .d (.bool b) => Q (.d (.bool (decide (a = b)))) M
  | _, _ => False
def pNotB : Pr2 := fun x y M Q => match x, y with
  | .d (.bool a), .d (.bool b) => Q (.d (.bool (!decide (a = b)))) M
  | _, _ => False
theorem xo_isB {X : Cy} : YOp X (compareOp .Is) pIsB := by
  refine ⟨_, op_is_bl, fun cx cy M Qh h B as x y H Q S ox oy q => ?_⟩
  unfold pIsB at h
  split at h
  · rename_i a b
    cases (show Rp X.K B x (.bool a) from ox)
    cases (show Rp X.K B y (.bool b) from oy)
    exact ⟨_, _, rfl, rfl, q _ M _ B as H h S.gr S (.bl _)⟩
  · cases h
theorem xo_notB {X : Cy} : YOp X (compareOp .IsNot) pNotB := by
  refine ⟨_, op_isnot_bl, fun cx cy M Qh h B as x y H Q S ox oy q => ?_⟩
  unfold pNotB at h
  split at h
  · rename_i a b
    cases (show Rp X.K B x (.bool a) from ox)
    cases (show Rp X.K B y (.bool b) from oy)
    exact ⟨_, _, rfl, rfl, q _ M _ B as H h S.gr S (.bl _)⟩
  · cases h
theorem w_notB {a b : Bool} {M : Mem} {Q : Qx} (h : Q (.d (.bool (!decide (a = b)))) M) : pNotB (.d (.bool a)) (.d (.bool b)) M Q := h
theorem w_isB {a b : Bool} {M : Mem} {Q : Qx} (h : Q (.d (.bool (decide (a = b)))) M) : pIsB (.d (.bool a)) (.d (.bool b)) M Q := h
end Kt

set_option Elab.async false
set_option linter.all false
set_option maxRecDepth 100000
set_option maxHeartbeats 4000000
namespace Lw
open PySem PySem.Spec PyProof.Rows L2 Kt
section
variable {P : Program} {w : World} {K : PySem.W.Frag} {mg : Str → Option Value} {base : Heap}
theorem div2 (i : Int) : CDivW i 2 := wide_div (b := 2) (by decide) (by decide) (by decide) (by decide)
theorem divR {i R : Int} (h : 0 < R) (h2 : R < 10 ^ 100) : CDivW i R := wide_div (b := 400) h (by omega) (by decide) (by decide)
def g_fore_part : Gs := fun cs M Q E => match cs with
  | [.d (.tuple [.int R, .int S])] => retD Q (.int (R / 2))
  | _ => False
def g_back_part : Gs := fun cs M Q E => match cs with
  | [.d (.tuple [.int R, .int S])] => retD Q (.int ((R - 1) / 2))
  | _ => False
def restI (R f p : Int) : Int := (f - p + (R - 1) / 2) % R - (R - 1) / 2
def g_rest_at : Gs := fun cs M Q E => match cs with
  | [.d (.tuple [.int R, .int S]), .d (.int f), .d (.int p)] => 0 < R ∧ retD Q (.int (restI R f p))
  | _ => False
def movedI (R f p w : Int) : Int := if -w ≤ restI R f p ∧ restI R f p ≤ w then p + restI R f p else if 0 < restI R f p then p + w else p - w
def g_moved : Gs := fun cs M Q E => match cs with
  | [.d (.tuple [.int R, .int S]), .d (.int f), .d (.int p), .d (.int u), .d (.int t)] => 0 < R ∧ CMulW u t ∧ retD Q (.int (movedI R f p (u * t)))
  | _ => False
def g_aim_at : Gs := fun cs M Q E => match cs with
  | [.d (.tuple [.int R, .int S]), .d (.int f), .d (.int p)] => 0 < R ∧ retD Q (.int (p + restI R f p))
  | _ => False
def lostI (R f p : Int) : Int := (f - (p + restI R f p)) / R
def g_lost_at : Gs := fun cs M Q E => match cs with
  | [.d (.tuple [.int R, .int S]), .d (.int f), .d (.int p)] => 0 < R ∧ R < 10 ^ 100 ∧ retD Q (.int (lostI R f p))
  | _ => False
/-! ### checks -/
def isN : PyData → Bool
  | .int _ => true
  | _ => false
def geD : PyData → Int → Bool
  | .int i, l => decide (l ≤ i)
  | _, _ => false
def pairD : PyData → Bool
  | .tuple [_, _] => true
  | _ => false
def g_is_number : Gs := fun cs M Q E => match cs with
  | [.d x] => retD Q (.bool (isN x))
  | _ => False
def g_is_number_from : Gs := fun cs M Q E => match cs with
  | [.d x, .d (.int l)] => retD Q (.bool (geD x l))
  | _ => False
def g_is_pair : Gs := fun cs M Q E => match cs with
  | [.d x] => retD Q (.bool (pairD x))
  | _ => False
/-- a wheel -/
def WhI (R S : Int) : Prop := 3 ≤ R ∧ 1 ≤ S ∧ S ≤ (R - 1) / 2
def g_check_wheel : Gs := fun cs M Q E => match cs with
  | [.d (.tuple [.int R, .int S])] => WhI R S ∧ retD Q .none
  | _ => False
def g_check_pull_from : Gs := fun cs M Q E => match cs with
  | [.d (.int u), .d (.int l)] => l ≤ u ∧ retD Q .none
  | _ => False
def g_check_pull : Gs := fun cs M Q E => match cs with
  | [.d (.int u)] => 0 ≤ u ∧ retD Q .none
  | _ => False
def bgD (R : Int) : PyData → Bool
  | .int p => decide (-(R / 2) ≤ p) && decide (p ≤ (R - 1) / 2)
  | _ => false
def g_is_beginning : Gs := fun cs M Q E => match cs with
  | [.d (.tuple [.int R, .int S]), .d x] => retD Q (.bool (bgD R x))
  | _ => False
def g_check_beginning : Gs := fun cs M Q E => match cs with
  | [.d (.tuple [.int R, .int S]), .d (.int p)] => (-(R / 2) ≤ p ∧ p ≤ (R - 1) / 2) ∧ retD Q .none
  | _ => False
/-- an item -/
def nzD : PyData → Bool
  | .int n => !decide (n = 0)
  | _ => false
def itemD : PyData → Int → Bool
  | .tuple [a, b], l => geD a l && nzD b
  | _, _ => false
theorem itemD_inv {y : PyData} {l : Int} (h : itemD y l = true) : ∃ t n, y = .tuple [.int t, .int n] ∧ l ≤ t ∧ n ≠ 0 := by
  match y, h with
  | .tuple [.int t, .int n], h =>
    have h' : (decide (l ≤ t) && !decide (n = 0)) = true := h
    simp only [Bool.and_eq_true, decide_eq_true_eq, Bool.not_eq_true', decide_eq_false_iff_not] at h'
    exact ⟨t, n, rfl, h'.1, h'.2⟩
  | .tuple [.int t, .none], h => simp [itemD, nzD] at h
  | .tuple [.int t, .bool _], h => simp [itemD, nzD] at h
  | .tuple [.int t, .str _], h => simp [itemD, nzD] at h
  | .tuple [.int t, .list _], h => simp [itemD, nzD] at h
  | .tuple [.int t, .tuple _], h => simp [itemD, nzD] at h
  | .tuple [.int t, .dict _], h => simp [itemD, nzD] at h
  | .tuple [.none, _], h => simp [itemD, geD] at h
  | .tuple [.bool _, _], h => simp [itemD, geD] at h
  | .tuple [.str _, _], h => simp [itemD, geD] at h
  | .tuple [.list _, _], h => simp [itemD, geD] at h
  | .tuple [.tuple _, _], h => simp [itemD, geD] at h
  | .tuple [.dict _, _], h => simp [itemD, geD] at h
  | .tuple [], h => simp [itemD] at h
  | .tuple [_], h => simp [itemD] at h
  | .tuple (_ :: _ :: _ :: _), h => simp [itemD] at h
  | .none, h => simp [itemD] at h
  | .bool _, h => simp [itemD] at h
  | .int _, h => simp [itemD] at h
  | .str _, h => simp [itemD] at h
  | .list _, h => simp [itemD] at h
  | .dict _, h => simp [itemD] at h
def g_is_item : Gs := fun cs M Q E => match cs with
  | [.d x, .d (.int l)] => retD Q (.bool (itemD x l))
  | _ => False
def tickOf : PyData → Int
  | .tuple (.int t :: _) => t
  | _ => 0
/-- a drive, its ticks from l on -/
def driveOk : List PyData → Int → Prop
  | [], _ => True
  | x :: xs, l => itemD x l = true ∧ driveOk xs (tickOf x + 1)
def turnOf : PyData → Int
  | .tuple [_, .int n] => n
  | _ => 0
def g_check_drive : Gs := fun cs M Q E => match cs with
  | [.d (.list xs), .d (.bool false)] => (xs.length ≤ 60 ∧ driveOk xs 0) ∧ retD Q .none
  | [.d (.list xs), .d (.bool true)] => (xs.length ≤ 60 ∧ driveOk xs 0 ∧ ∀ x ∈ xs, 1 ≤ turnOf x) ∧ retD Q .none
  | _ => False
def BgI (R p : Int) : Prop := -(R / 2) ≤ p ∧ p ≤ (R - 1) / 2
def g_check_play : Gs := fun cs M Q E => match cs with
  | [.d (.tuple [.int R, .int S]), .d (.int u), .d (.int p), .d (.list xs)] => (WhI R S ∧ 0 ≤ u ∧ BgI R p ∧ xs.length ≤ 60 ∧ driveOk xs 0) ∧ retD Q .none
  | _ => False
/-! ### plays -/
abbrev Item := Int × Int
def itD (x : Item) : PyData := .tuple [.int x.1, .int x.2]
/-- a drive as pairs: its ticks ascend from l on, no turn is 0 -/
def Asc : List Item → Int → Prop
  | [], _ => True
  | (t, n) :: r, l => l ≤ t ∧ n ≠ 0 ∧ Asc r (t + 1)
theorem asc_ok : ∀ {ds : List Item} {l : Int}, Asc ds l → driveOk (ds.map itD) l
  | [], _, _ => trivial
  | (t, n) :: r, l, h => ⟨by
      show (decide (l ≤ t) && !decide (n = 0)) = true
      simp only [Bool.and_eq_true, decide_eq_true_eq, Bool.not_eq_true', decide_eq_false_iff_not]
      exact ⟨h.1, h.2.1⟩, asc_ok h.2.2⟩
/-- the marks behind now, field, here -/
def marksI (R S u : Int) : List Item → Int → Int → Int → List (Int × Int × Int)
  | [], _, _, _ => []
  | (t, n) :: r, now, fl, here => (t, fl + n * S, movedI R fl here (u * (t - now))) :: marksI R S u r t (fl + n * S) (movedI R fl here (u * (t - now)))
def mkD (x : Int × Int × Int) : PyData := .tuple [.int x.1, .int x.2.1, .int x.2.2]
/-- numbers small enough to multiply -/
def Sm (i : Int) : Prop := -(10 ^ 200 : Int) < i ∧ i < 10 ^ 200
theorem Sm.mul {i j : Int} (h : Sm i) (h' : Sm j) : CMulW i j := wide_mul (a := 700) (b := 700) (by unfold Sm at h; omega) (by unfold Sm at h'; omega) (by decide) (by decide) (by decide)
def SmI (ds : List Item) : Prop := ∀ x ∈ ds, Sm x.1 ∧ Sm x.2
def g_marks_of : Gs := fun cs M Q E => match cs, M with
  | [.d (.tuple [.int R, .int S]), .d (.int u), .d (.int p), .d (.list xs)], [] => ∃ ds : List Item, xs = ds.map itD ∧ (0 < R ∧ Sm u ∧ Sm S ∧ ds.length ≤ 1000 ∧ Asc ds 0 ∧ SmI ds) ∧ retL Q (((0, 0, p) :: marksI R S u ds 0 0 p).map mkD)
  | _, _ => False
theorem small_line {n : Nat} (h : n ≤ 100000) : n ≤ sizeLine := Nat.le_trans h (by decide)
theorem small_lt {n : Nat} (h : n ≤ 100000) : n < sizeLine := Nat.lt_of_le_of_lt h (by decide)

/-! ### play, slips, is_kept -/
def plI (R S u : Int) (ds : List Item) (p : Int) : List (Int × Int × Int) := (marksI R S u ds 0 0 p).map fun m => (m.1, m.2.2, lostI R m.2.1 m.2.2)
def PlOk (R S u p : Int) (ds : List Item) : Prop := WhI R S ∧ R < 10 ^ 100 ∧ 0 ≤ u ∧ Sm u ∧ BgI R p ∧ ds.length ≤ 60 ∧ Asc ds 0 ∧ SmI ds
theorem PlOk.smS {R S u p : Int} {ds : List Item} (h : PlOk R S u p ds) : Sm S := by
  obtain ⟨⟨h1, h2, h3⟩, h4, _⟩ := h
  unfold Sm
  omega
def g_play : Gs := fun cs M Q E => match cs, M with
  | [.d (.tuple [.int R, .int S]), .d (.int u), .d (.int p), .d (.list xs)], [] => ∃ ds : List Item, xs = ds.map itD ∧ PlOk R S u p ds ∧ retL Q ((plI R S u ds p).map mkD)
  | _, _ => False
def slI : Int → Int → List Int → List (Int × Int)
  | _, _, [] => []
  | k, b, l :: r => (if l = b then [] else [(k, l - b)]) ++ slI (k + 1) l r
def lostsI (R S u : Int) (ds : List Item) (p : Int) : List Int := (plI R S u ds p).map fun m => m.2.2
theorem slI_cons (k b l : Int) (r : List Int) : slI k b (l :: r) = (if l = b then [] else [(k, l - b)]) ++ slI (k + 1) l r := rfl
theorem num_len : ∀ {xs : List PyData} {k : Nat}, (Kt.numbered k xs).length = xs.length
  | [], _ => rfl
  | _ :: r, k => congrArg (· + 1) (@num_len r (k + 1))
theorem live_app {α : Type} (f : α → PyData) (acc : List α) (x : α) (M : Mem) : MC.live (acc.map f ++ [f x]) :: M = MC.live ((acc ++ [x]).map f) :: M := by rw [List.map_append] <;> rfl
def g_slips : Gs := fun cs M Q E => match cs, M with
  | [.d (.tuple [.int R, .int S]), .d (.int u), .d (.int p), .d (.list xs)], [] => ∃ ds : List Item, xs = ds.map itD ∧ PlOk R S u p ds ∧ retL Q ((slI 0 0 (lostsI R S u ds p)).map itD)
  | _, _ => False
def g_is_kept : Gs := fun cs M Q E => match cs, M with
  | [.d (.tuple [.int R, .int S]), .d (.int u), .d (.int p), .d (.list xs)], [] => ∃ ds : List Item, xs = ds.map itD ∧ PlOk R S u p ds ∧ retD Q (.bool (slI 0 0 (lostsI R S u ds p)).isEmpty)
  | _, _ => False
theorem slI_flat {k b : Int} {ls : List Int} {n : Nat} : Fl (n + 2) (.list ((slI k b ls).map itD)) := .lst fun x hx => by
  obtain ⟨y, _, rfl⟩ := List.mem_map.mp hx
  exact .tup fun z hz => by
    simp only [List.mem_cons, List.not_mem_nil, or_false] at hz
    rcases hz with rfl | rfl <;> exact .int
theorem marksI_len {R S u : Int} : ∀ {ds : List Item} {a b c : Int}, (marksI R S u ds a b c).length = ds.length
  | [], _, _, _ => rfl
  | (t, n) :: r, _, _, _ => by
    show (marksI R S u r _ _ _).length + 1 = r.length + 1
    rw [marksI_len]
theorem plI_len {R S u p : Int} {ds : List Item} : (plI R S u ds p).length = ds.length := by
  unfold plI
  rw [List.length_map, marksI_len]
theorem slI_len : ∀ {ls : List Int} {k b : Int}, (slI k b ls).length ≤ ls.length
  | [], _, _ => Nat.le_refl _
  | l :: r, k, b => by
    unfold slI
    rw [List.length_append]
    have := @slI_len r (k + 1) l
    split <;> simp <;> omega
def scaleD : PyData → PyData
  | .tuple [.int t, .int f, .int h] => .tuple [.int t, .int h, .int f]
  | d => d
def lostD (R : Int) : PyData → PyData
  | .tuple [.int t, .int f, .int h] => .tuple [.int t, .int h, .int (lostI R f h)]
  | d => d
/-! ### the draws -/
/-- the source's numbers -/
def SrcOk (a b c : Int) : Prop := 0 ≤ a ∧ 0 ≤ b ∧ b < 10 ^ 19 ∧ 0 ≤ c ∧ c ≤ 10 ^ 12
theorem src_ok {a b c : Int} (h1 : 0 ≤ a) (h2 : 0 ≤ b) (h3 : b < 10 ^ 19) (h4 : 0 ≤ c) (h5 : c ≤ 10 ^ 12) : SrcOk a b c := ⟨h1, h2, h3, h4, h5⟩
def g__law_source : Gs := fun cs M Q E => match cs, M with
  | [.s ns, .d (.int at_)], [] => (0 ≤ at_ ∧ at_ ≤ 1000) ∧ ∀ a b, SrcOk a b 0 → retL Q [.int a, .int b, .int 0]
  | _, _ => False
def g__law_draw : Gs := fun cs M Q E => match cs, M with
  | [.r 0, .d (.int many)], [.live [.int a, .int b, .int c]] => (SrcOk a b c ∧ 0 < many ∧ many < 10 ^ 90) ∧ ∀ d a' c', 0 ≤ d → d < many → 0 ≤ a' → c ≤ c' → c' ≤ c + 1 → retDR Q [.int a', .int b, .int c'] (.int d)
  | _, _ => False
theorem gs_draw {Q : Qx} {E : Xc → Mem → Prop} {many a b c : Int} (h : (SrcOk a b c ∧ 0 < many ∧ many < 10 ^ 90) ∧ ∀ d a' c', 0 ≤ d → d < many → 0 ≤ a' → c ≤ c' → c' ≤ c + 1 → retDR Q [.int a', .int b, .int c'] (.int d)) : g__law_draw [.r 0, .d (.int many)] [.live [.int a, .int b, .int c]] Q E := h
/-! ### the law's own wheel -/
def Sm9 (i : Int) : Prop := -(10 ^ 190 : Int) < i ∧ i < 10 ^ 190
theorem Sm9.div {i R : Int} (h : Sm9 i) (hR : 0 < R) : -(10 ^ 190 : Int) ≤ i / R ∧ i / R < 10 ^ 190 := by
  unfold Sm9 at h
  exact ⟨Int.le_ediv_of_mul_le hR (by omega), Int.ediv_lt_of_lt_mul hR (by omega)⟩
def prD (a b : Int) : PyData := .tuple [.int a, .int b]
theorem prD_min {a1 b1 a2 b2 a3 b3 a4 b4 : Int} (h1 : a2 < a1) (h2 : a3 < a4) : PySem.W.minD (prD a1 b1) [prD a2 b2, prD a3 b3, prD a4 b4] = if a3 < a2 ∨ (a3 = a2 ∧ b3 < b2) then prD a3 b3 else prD a2 b2 := by
  have l (a b c d : Int) : PySem.W.dataLt (prD a b) (prD c d) = decide (a < c ∨ (a = c ∧ b < d)) := lt_pair a b c d
  unfold PySem.W.minD
  simp only [List.foldl_cons, List.foldl_nil]
  rw [if_pos ((l a2 b2 a1 b1).trans (decide_eq_true (Or.inl h1)))]
  by_cases h : a3 < a2 ∨ (a3 = a2 ∧ b3 < b2)
  · rw [if_pos h, if_pos ((l a3 b3 a2 b2).trans (decide_eq_true h)), if_neg]
    rw [l, decide_eq_true_eq]
    omega
  · rw [if_neg h, if_neg (c := PySem.W.dataLt (prD a3 b3) (prD a2 b2) = true) (by rw [l, decide_eq_true_eq]; exact h), if_neg]
    rw [l, decide_eq_true_eq]
    omega
theorem prD_alike {l : List PyData} (h : ∀ x ∈ l, ∃ a b, x = prD a b) : PySem.W.AlikeAll l := by
  refine ⟨fun x hx y hy => ?_, fun x hx => ?_⟩
  · obtain ⟨a, b, rfl⟩ := h x hx
    obtain ⟨c, d, rfl⟩ := h y hy
    rfl
  · obtain ⟨a, b, rfl⟩ := h x hx
    exact nofun
theorem prD_flat {l : List PyData} (h : ∀ x ∈ l, ∃ a b, x = prD a b) : Fl 2 (.list l) := .lst fun x hx => by
  obtain ⟨a, b, rfl⟩ := h x hx
  exact .tup fun z hz => by
    simp only [List.mem_cons, List.not_mem_nil, or_false] at hz
    rcases hz with rfl | rfl <;> exact .int
theorem Fl.up {n m : Nat} {d : PyData} (h : Fl n d) (hn : n ≤ m) : Fl m d := ⟨h.lay, Nat.le_trans h.dep hn⟩
def g__law_goal : Gs := fun cs M Q E => match cs, M with
  | [.d (.tuple [.int R, .int S]), .d (.int f), .d (.int p)], [] => (0 < R ∧ R < 10 ^ 100 ∧ Sm9 (p - f)) ∧ retD Q (.int (p + restI R f p))
  | _, _ => False
def g__law_gone : Gs := fun cs M Q E => match cs, M with
  | [.d (.tuple [.int R, .int S]), .d (.int f), .d (.int p), .d (.int w)], [] => (0 < R ∧ R < 10 ^ 100 ∧ Sm9 (p - f)) ∧ retD Q (.int (movedI R f p w))
  | _, _ => False
theorem rest_two {R f p : Int} (h : 0 < R) : p + restI R f p = if 2 * ((p - f) % R) < R then f + R * ((p - f) / R) else f + R * ((p - f) / R + 1) := by
  have e1 := Int.emod_add_mul_ediv (p - f) R
  have e2 := Int.emod_nonneg (p - f) (show R ≠ 0 by omega)
  have e3 := Int.emod_lt_of_pos (p - f) h
  generalize hr : (p - f) % R = r at *
  generalize hq : (p - f) / R = q at *
  have hk : f - p + (R - 1) / 2 = ((R - 1) / 2 - r) + R * (-q) := by rw [Int.mul_neg]; omega
  unfold restI
  rw [hk, Int.add_mul_emod_self_left]
  split
  · rename_i h1
    rw [Int.emod_eq_of_lt (by omega) (by omega)]
    omega
  · rename_i h1
    rw [show (R - 1) / 2 - r = ((R - 1) / 2 - r + R) + R * (-1) from by omega, Int.add_mul_emod_self_left, Int.emod_eq_of_lt (by omega) (by omega), Int.mul_add]
    omega

/-! ### what is drawn -/
def g__law_rotor : Gs := fun cs M Q E => match cs, M with
  | [.r 0, .d (.int far)], [.live [.int a, .int b, .int c]] => ((SrcOk a b c ∧ c + 4 ≤ 10 ^ 12) ∧ 10 ≤ far ∧ far ≤ 10 ^ 30) ∧ ∀ R S a' c', WhI R S → R ≤ far + 2 → 0 ≤ a' → c ≤ c' → c' ≤ c + 4 → retDR Q [.int a', .int b, .int c'] (.tuple [.int R, .int S])
  | _, _ => False
def ItOk (x : Item) : Prop := x.1 ≤ 10 ^ 31 ∧ -(10 ^ 21) ≤ x.2 ∧ x.2 ≤ 10 ^ 21
def PlanOk (ds : List Item) : Prop := ds.length ≤ 60 ∧ Asc ds 0 ∧ ∀ x ∈ ds, ItOk x
def g__law_plan : Gs := fun cs M Q E => match cs, M with
  | [.r 0, .d (.int many), .d (.int gap), .d (.int top)], [.live [.int a, .int b, .int c]] => ((SrcOk a b c ∧ c + 1000 ≤ 10 ^ 12) ∧ 0 ≤ many ∧ many ≤ 60 ∧ 1 ≤ gap ∧ gap ≤ 10 ^ 28 ∧ 1 ≤ top ∧ top ≤ 10 ^ 21) ∧ ∀ ds a' c', PlanOk ds → (∀ x ∈ ds, x.1 ≤ 61 * (gap + 1)) → 0 ≤ a' → c ≤ c' → c' ≤ c + 1000 → retLR Q [.int a', .int b, .int c'] (ds.map itD)
  | _, _ => False
def g__law_spot : Gs := fun cs M Q E => match cs, M with
  | [.r 0, .d (.tuple [.int R, .int S])], [.live [.int a, .int b, .int c]] => ((SrcOk a b c ∧ c + 2 ≤ 10 ^ 12) ∧ 3 ≤ R ∧ R ≤ 10 ^ 31) ∧ ∀ p a' c', BgI R p → 0 ≤ a' → c ≤ c' → c' ≤ c + 2 → retDR Q [.int a', .int b, .int c'] (.int p)
  | _, _ => False
def g__law_force : Gs := fun cs M Q E => match cs, M with
  | [.r 0, .d (.tuple [.int R, .int S]), .d (.list xs)], [.live [.int a, .int b, .int c]] => ∃ ds : List Item, xs = ds.map itD ∧ ((SrcOk a b c ∧ c + 3 ≤ 10 ^ 12) ∧ WhI R S ∧ R ≤ 10 ^ 30 ∧ PlanOk ds) ∧ ∀ u a' c', 0 ≤ u → u ≤ 10 ^ 31 → 0 ≤ a' → c ≤ c' → c' ≤ c + 3 → retDR Q [.int a', .int b, .int c'] (.int u)
  | _, _ => False
def BtI (lo hi : Int) (x : PyData) : Prop := ∃ i, x = .int i ∧ lo ≤ i ∧ i ≤ hi
theorem asc_snoc : ∀ {ds : List Item} {l t n : Int}, Asc ds l → (∀ x ∈ ds, x.1 < t) → l ≤ t → n ≠ 0 → Asc (ds ++ [(t, n)]) l
  | [], _, _, _, _, _, h2, h3 => ⟨h2, h3, trivial⟩
  | (t', n') :: r, l, t, n, h, h1, h2, h3 => ⟨h.1, h.2.1, asc_snoc h.2.2 (fun x hx => h1 x (List.mem_cons_of_mem _ hx)) (by have := h1 (t', n') List.mem_cons_self; dsimp only at this; omega) h3⟩
theorem asc_last {ds : List Item} {t n : Int} : ∀ {l : Int}, Asc (ds ++ [(t, n)]) l → l ≤ t := by
  induction ds with
  | nil => exact fun h => h.1
  | cons x r ih =>
    intro l h
    have h1 : tickOf (itD x) + 1 ≤ t := ih h.2.2
    have h2 : l ≤ tickOf (itD x) := h.1
    omega
theorem itD_flat {ds : List Item} {n : Nat} : Fl (n + 2) (.list (ds.map itD)) := .lst fun x hx => by
  obtain ⟨y, _, rfl⟩ := List.mem_map.mp hx
  exact .tup fun z hz => by
    simp only [List.mem_cons, List.not_mem_nil, or_false] at hz
    rcases hz with rfl | rfl <;> exact .int
def NzI (x : PyData) : Prop := ∃ i, x = .int i ∧ i ≠ 0 ∧ (-(10 ^ 21) ≤ i ∧ i ≤ 10 ^ 21)
def PreOk (R S u p : Int) (ds : List Item) : Prop := WhI R S ∧ R ≤ 10 ^ 30 ∧ 0 ≤ u ∧ u ≤ 10 ^ 31 ∧ BgI R p ∧ PlanOk ds
def g__law_played : Gs := fun cs M Q E => match cs, M with
  | [.d (.tuple [.int R, .int S]), .d (.int u), .d (.int p), .d (.list xs)], [] => ∃ ds : List Item, xs = ds.map itD ∧ PreOk R S u p ds ∧ retL Q ((plI R S u ds p).map mkD)
  | _, _ => False
theorem bdm {n S : Int} (h1 : -(10 ^ 21) ≤ n) (h2 : n ≤ 10 ^ 21) (h3 : 0 ≤ S) (h4 : S ≤ 10 ^ 30) : -(10 ^ 51) ≤ n * S ∧ n * S ≤ 10 ^ 51 := by
  have a := Int.mul_le_mul_of_nonneg_right h2 h3
  have b := Int.mul_le_mul_of_nonneg_right h1 h3
  have e : -(10 ^ 21) * S = -(10 ^ 21 * S) := Int.neg_mul _ _
  omega
theorem moved_bd {R f p w : Int} (h : 0 < R) (hw : 0 ≤ w) : p - R ≤ movedI R f p w ∧ movedI R f p w ≤ p + R := by
  have e2 := Int.emod_nonneg (f - p + (R - 1) / 2) (show R ≠ 0 by omega)
  have e3 := Int.emod_lt_of_pos (f - p + (R - 1) / 2) h
  unfold movedI restI
  split <;> (try split) <;> omega

/-! ### sizes -/
theorem marks_bd {R S u : Int} : ∀ (ds : List Item) (l last fl here k : Int), Asc ds l → last ≤ l → 0 ≤ last → (∀ x ∈ ds, ItOk x) → 0 ≤ u → WhI R S → R ≤ 10 ^ 30 → 0 ≤ k → (-(k * 10 ^ 52) ≤ fl ∧ fl ≤ k * 10 ^ 52) → (-((k + 1) * 10 ^ 31) ≤ here ∧ here ≤ (k + 1) * 10 ^ 31) →
    ∀ m ∈ marksI R S u ds last fl here, 0 ≤ m.1 ∧ m.1 ≤ 10 ^ 31 ∧ (-((k + ds.length) * 10 ^ 52) ≤ m.2.1 ∧ m.2.1 ≤ (k + ds.length) * 10 ^ 52) ∧ (-((k + ds.length + 1) * 10 ^ 31) ≤ m.2.2 ∧ m.2.2 ≤ (k + ds.length + 1) * 10 ^ 31)
  | [], _, _, _, _, _, _, _, _, _, _, _, _, _, _, _, m, hm => by cases hm
  | (t, n) :: r, l, last, fl, here, k, ha, h1, h2, h3, h4, h5, h6, h7, h8, h9, m, hm => by
    obtain ⟨a1, a2, a3⟩ := ha
    obtain ⟨s1, s2, s3⟩ := h3 (t, n) List.mem_cons_self
    dsimp only at s1 s2 s3
    obtain ⟨w1, w2, w3⟩ := h5
    have bd := bdm s2 s3 (show (0 : Int) ≤ S by omega) (by omega)
    have mb := @moved_bd R fl here (u * (t - last)) (by omega) (Int.mul_nonneg h4 (by omega))
    have hm' : m ∈ (t, fl + n * S, movedI R fl here (u * (t - last))) :: marksI R S u r t (fl + n * S) (movedI R fl here (u * (t - last))) := hm
    rw [List.length_cons]
    rcases List.mem_cons.mp hm' with rfl | hm'
    · dsimp only
      refine ⟨by omega, s1, ⟨by omega, by omega⟩, ⟨by omega, by omega⟩⟩
    · have ih := marks_bd r (t + 1) t (fl + n * S) (movedI R fl here (u * (t - last))) (k + 1) a3 (by omega) (by omega) (fun x hx => h3 x (List.mem_cons_of_mem _ hx)) h4 ⟨w1, w2, w3⟩ h6 (by omega) ⟨by omega, by omega⟩ ⟨by omega, by omega⟩ m hm'
      obtain ⟨b1, b2, ⟨b3, b4⟩, ⟨b5, b6⟩⟩ := ih
      refine ⟨b1, b2, ⟨by omega, by omega⟩, ⟨by omega, by omega⟩⟩
theorem pl_bd {R S u p : Int} {ds : List Item} (h : PreOk R S u p ds) : ∀ m ∈ plI R S u ds p, Sm9 m.1 ∧ Sm9 m.2.1 ∧ (-(10 ^ 190) ≤ m.2.2 ∧ m.2.2 < 10 ^ 190) := fun m hm => by
  obtain ⟨⟨w1, w2, w3⟩, h2, h3, h4, ⟨h5, h5b⟩, ⟨h6, h7, h8⟩⟩ := h
  unfold plI at hm
  obtain ⟨x, hx, rfl⟩ := List.mem_map.mp hm
  obtain ⟨b1, b2, ⟨b3, b4⟩, ⟨b5, b6⟩⟩ := marks_bd ds 0 0 0 p 0 h7 (by omega) (by omega) h8 h3 ⟨w1, w2, w3⟩ h2 (by omega) ⟨by omega, by omega⟩ ⟨by omega, by omega⟩ x hx
  have e2 := Int.emod_nonneg (x.2.1 - x.2.2 + (R - 1) / 2) (show R ≠ 0 by omega)
  have e3 := Int.emod_lt_of_pos (x.2.1 - x.2.2 + (R - 1) / 2) (show 0 < R by omega)
  dsimp only
  refine ⟨⟨by omega, by omega⟩, ⟨by omega, by omega⟩, ?_⟩
  unfold lostI
  refine Sm9.div ⟨?_, ?_⟩ (by omega) <;> (unfold restI; omega)
theorem PreOk.pl {R S u p : Int} {ds : List Item} (h : PreOk R S u p ds) : PlOk R S u p ds := by
  obtain ⟨⟨w1, w2, w3⟩, h2, h3, h4, h5, ⟨h6, h7, h8⟩⟩ := h
  refine ⟨⟨w1, w2, w3⟩, by omega, h3, ⟨by omega, by omega⟩, h5, h6, h7, fun x hx => ?_⟩
  have ⟨a, b, c⟩ := h8 x hx
  have key : ∀ {ds : List Item} {l : Int}, Asc ds l → ∀ x ∈ ds, l ≤ x.1 := fun {ds} => by
    induction ds with
    | nil => exact fun _ x hx => by cases hx
    | cons y r ih =>
      intro l h x hx
      have h1 : l ≤ y.1 := h.1
      rcases List.mem_cons.mp hx with rfl | hx
      · exact h1
      · have h2 : y.1 + 1 ≤ x.1 := ih h.2.2 x hx
        omega
  have d := key h7 x hx
  exact ⟨⟨by omega, by omega⟩, ⟨by omega, by omega⟩⟩
theorem pl_shw {R S u p : Int} {ds : List Item} (h : PreOk R S u p ds) : Shw 2 400 (.list ((plI R S u ds p).map mkD)) := .lst (b := 3) (fun x hx => by
    obtain ⟨m, hm, rfl⟩ := List.mem_map.mp hx
    obtain ⟨⟨a1, a2⟩, ⟨a3, a4⟩, a5, a6⟩ := pl_bd h m hm
    exact .tup (b := 0) (fun z hz => by
      simp only [List.mem_cons, List.not_mem_nil, or_false] at hz
      rcases hz with rfl | rfl | rfl <;> exact .int ⟨by omega, by omega⟩) (by simp)) (by rw [List.length_map, plI_len]; have := h.2.2.2.2.2.1; omega)
theorem slI_bd : ∀ (L : List Int) (k b : Int), (∀ l ∈ L, -(10 ^ 190) ≤ l ∧ l < 10 ^ 190) → (-(10 ^ 190) ≤ b ∧ b < 10 ^ 190) → 0 ≤ k → k + L.length ≤ 10 ^ 9 → ∀ x ∈ slI k b L, Sm0 x.1 ∧ Sm0 x.2
  | [], _, _, _, _, _, _, x, hx => by cases hx
  | l :: r, k, b, h1, h2, h3, h4, x, hx => by
    rw [slI_cons] at hx
    rw [List.length_cons] at h4
    have hl := h1 l List.mem_cons_self
    rcases List.mem_append.mp hx with hx | hx
    · split at hx
      · cases hx
      · cases List.mem_singleton.mp hx
        unfold Sm0
        dsimp only
        exact ⟨by omega, by omega⟩
    · exact slI_bd r (k + 1) l (fun y hy => h1 y (List.mem_cons_of_mem _ hy)) hl (by omega) (by omega) x hx
theorem losts_bd {R S u p : Int} {ds : List Item} (h : PreOk R S u p ds) : ∀ l ∈ lostsI R S u ds p, -(10 ^ 190) ≤ l ∧ l < 10 ^ 190 := fun l hl => by
  unfold lostsI at hl
  obtain ⟨m, hm, rfl⟩ := List.mem_map.mp hl
  exact (pl_bd h m hm).2.2
theorem losts_len {R S u p : Int} {ds : List Item} : (lostsI R S u ds p).length = ds.length := by unfold lostsI; rw [List.length_map, plI_len]
theorem sl_shw {R S u p : Int} {ds : List Item} (h : PreOk R S u p ds) : Shw 2 400 (.list ((slI 0 0 (lostsI R S u ds p)).map itD)) := .lst (b := 2) (fun x hx => by
    obtain ⟨m, hm, rfl⟩ := List.mem_map.mp hx
    have h6 := h.2.2.2.2.2.1
    obtain ⟨a1, a2⟩ := slI_bd _ 0 0 (losts_bd h) ⟨by omega, by omega⟩ (by omega) (by rw [losts_len]; omega) m hm
    exact .tup (b := 0) (fun z hz => by
      simp only [List.mem_cons, List.not_mem_nil, or_false] at hz
      rcases hz with rfl | rfl
      · exact .int a1
      · exact .int a2) (by simp)) (by rw [List.length_map]; have := @slI_len (lostsI R S u ds p) 0 0; rw [losts_len] at this; have := h.2.2.2.2.2.1; omega)
theorem slI_sum : ∀ (L : List Int) (k b : Int), ((slI k b L).map (·.2)).sum = lastI b L - b
  | [], _, b => by show (0 : Int) = b - b; omega
  | l :: r, k, b => by
    rw [slI_cons, List.map_append, List.sum_append, slI_sum r]
    show _ = lastI l r - b
    split
    · rename_i e
      subst e
      show (0 : Int) + _ = _
      omega
    · show ((l - b) + 0 : Int) + _ = _
      omega
def thirdD : PyData → PyData
  | .tuple [_, _, z] => z
  | d => d
def secD : PyData → PyData
  | .tuple [_, z] => z
  | d => d

/-! ### the law: the memory is told by what stands in it -/
def At (n : Nat) (M : Mem) (b a c : Int) : Prop := M[n]? = some (.live [.int a, .int b, .int c])
/-- all but n is as it was -/
def Kp (n : Nat) (M M' : Mem) : Prop := M.length ≤ M'.length ∧ ∀ k, k < M.length → k ≠ n → M'[k]? = M[k]?
theorem At.lt {n : Nat} {M : Mem} {b a c : Int} (h : At n M b a c) : n < M.length := (List.getElem?_eq_some_iff.mp h).1
theorem At.app {n : Nat} {M L : Mem} {b a c : Int} (h : At n M b a c) : At n (M ++ L) b a c := by
  unfold At
  rw [List.getElem?_append_left h.lt]
  exact h
theorem at_set {n : Nat} {M : Mem} {b a c a' c' : Int} (h : At n M b a c) : At n (M.set n (.live [.int a', .int b, .int c'])) b a' c' := by
  unfold At
  rw [List.getElem?_set_self h.lt]
theorem kp_set {n : Nat} {M : Mem} {z : MC} : Kp n M (M.set n z) := ⟨by rw [List.length_set]; exact Nat.le_refl _, fun k _ hk => List.getElem?_set_ne (fun e => hk e.symm)⟩
theorem deref_of {M : Mem} {k : Nat} {xs : List PyData} (h : M[k]? = some (.live xs)) : deref (.r k) M = some (.list xs) := by
  unfold deref
  dsimp only
  rw [h]
theorem new_at {M : Mem} {z : MC} : (M ++ [z])[M.length]? = some z := List.getElem?_concat_length
section
variable {M : Mem} {Q : Qx} {ρ : Rho} {Wh : Xc → Rho → Mem → Prop} {n kk : Nat} {a b c : Int}
theorem w_drawG {many : Int} (hn : 2 = kk) (hm : At n M b a c) (pre : SrcOk a b c ∧ 0 < many ∧ many < 10 ^ 90)
    (h : ∀ d a' c' M', 0 ≤ d → d < many → 0 ≤ a' → c ≤ c' → c' ≤ c + 1 → At n M' b a' c' → Kp n M M' → Q (.d (.int d)) M') : gCallR kk g__law_draw Wh ρ Q [.r n, .d (.int many)] M := by
  refine w_gcallR hn rfl hm (gs_draw ⟨pre, fun d a' c' h1 h2 h3 h4 h5 => w_retDR (h d a' c' _ h1 h2 h3 h4 h5 (at_set hm) kp_set)⟩)
theorem w_rotorG {far : Int} (hn : 2 = kk) (hm : At n M b a c) (pre : (SrcOk a b c ∧ c + 4 ≤ 10 ^ 12) ∧ 10 ≤ far ∧ far ≤ 10 ^ 30)
    (h : ∀ R S a' c' M', WhI R S → R ≤ far + 2 → 0 ≤ a' → c ≤ c' → c' ≤ c + 4 → At n M' b a' c' → Kp n M M' → Q (.d (.tuple [.int R, .int S])) M') : gCallR kk g__law_rotor Wh ρ Q [.r n, .d (.int far)] M := by
  refine w_gcallR hn rfl hm ?_
  exact ⟨pre, fun R S a' c' h1 h2 h3 h4 h5 => w_retDR (h R S a' c' _ h1 h2 h3 h4 h5 (at_set hm) kp_set)⟩
theorem w_planG {many gap top : Int} (hn : 4 = kk) (hm : At n M b a c) (pre : (SrcOk a b c ∧ c + 1000 ≤ 10 ^ 12) ∧ 0 ≤ many ∧ many ≤ 60 ∧ 1 ≤ gap ∧ gap ≤ 10 ^ 28 ∧ 1 ≤ top ∧ top ≤ 10 ^ 21)
    (h : ∀ ds k a' c' M', PlanOk ds → 0 ≤ a' → c ≤ c' → c' ≤ c + 1000 → At n M' b a' c' → n ≠ k → M'[k]? = some (.live (ds.map itD)) → Q (.r k) M') : gCallR kk g__law_plan Wh ρ Q [.r n, .d (.int many), .d (.int gap), .d (.int top)] M := by
  refine w_gcallR hn rfl hm ?_
  refine ⟨pre, fun ds a' c' h1 _ h2 h3 h4 => w_retLR (h ds M.length a' c' _ h1 h2 h3 h4 (At.app (at_set hm)) (by have := hm.lt; omega) ?_)⟩
  have := @new_at (M.set n (.live [.int a', .int b, .int c'])) (.live (ds.map itD))
  rw [List.length_set] at this
  exact this
theorem w_planG' {many gap top : Int} (hn : 4 = kk) (hm : At n M b a c) (pre : (SrcOk a b c ∧ c + 1000 ≤ 10 ^ 12) ∧ 0 ≤ many ∧ many ≤ 60 ∧ 1 ≤ gap ∧ gap ≤ 10 ^ 28 ∧ 1 ≤ top ∧ top ≤ 10 ^ 21)
    (h : ∀ ds k a' c' M', PlanOk ds → (∀ x ∈ ds, x.1 ≤ 61 * (gap + 1)) → 0 ≤ a' → c ≤ c' → c' ≤ c + 1000 → At n M' b a' c' → n ≠ k → M'[k]? = some (.live (ds.map itD)) → Q (.r k) M') : gCallR kk g__law_plan Wh ρ Q [.r n, .d (.int many), .d (.int gap), .d (.int top)] M := by
  refine w_gcallR hn rfl hm ?_
  refine ⟨pre, fun ds a' c' h1 h1b h2 h3 h4 => w_retLR (h ds M.length a' c' _ h1 h1b h2 h3 h4 (At.app (at_set hm)) (by have := hm.lt; omega) ?_)⟩
  have := @new_at (M.set n (.live [.int a', .int b, .int c'])) (.live (ds.map itD))
  rw [List.length_set] at this
  exact this
theorem w_spotG {R S : Int} (hn : 2 = kk) (hm : At n M b a c) (pre : (SrcOk a b c ∧ c + 2 ≤ 10 ^ 12) ∧ 3 ≤ R ∧ R ≤ 10 ^ 31)
    (h : ∀ p a' c' M', BgI R p → 0 ≤ a' → c ≤ c' → c' ≤ c + 2 → At n M' b a' c' → Kp n M M' → Q (.d (.int p)) M') : gCallR kk g__law_spot Wh ρ Q [.r n, .d (.tuple [.int R, .int S])] M := by
  refine w_gcallR hn rfl hm ?_
  exact ⟨pre, fun p a' c' h1 h3 h4 h5 => w_retDR (h p a' c' _ h1 h3 h4 h5 (at_set hm) kp_set)⟩
theorem w_forceG {R S : Int} {k : Nat} {ds : List Item} (hn : 3 = kk) (hm : At n M b a c) (nk : n ≠ k) (hk : M[k]? = some (.live (ds.map itD))) (pre : (SrcOk a b c ∧ c + 3 ≤ 10 ^ 12) ∧ WhI R S ∧ R ≤ 10 ^ 30 ∧ PlanOk ds)
    (h : ∀ u a' c' M', 0 ≤ u → u ≤ 10 ^ 31 → 0 ≤ a' → c ≤ c' → c' ≤ c + 3 → At n M' b a' c' → M'[k]? = some (.fz (ds.map itD)) → Q (.d (.int u)) M') : gCallR kk g__law_force Wh ρ Q [.r n, .d (.tuple [.int R, .int S]), .r k] M := by
  have hc : cellsC [.d (.tuple [.int R, .int S]), .r k] M = some ([.d (.tuple [.int R, .int S]), .d (.list (ds.map itD))], M.set k (.fz (ds.map itD))) := by
    simp only [cellsC, cellC, asD, hk]
  have hm' : At n (M.set k (.fz (ds.map itD))) b a c := by
    unfold At
    rw [List.getElem?_set_ne (fun e => nk e.symm)]
    exact hm
  refine w_gcallR hn hc hm' ?_
  refine ⟨ds, rfl, pre, fun u a' c' h1 h2 h3 h4 h5 => w_retDR (h u a' c' _ h1 h2 h3 h4 h5 (at_set hm') ?_)⟩
  rw [List.getElem?_set_ne nk, List.getElem?_set_self (List.getElem?_eq_some_iff.mp hk).1]
theorem w_playG {R S u p : Int} {k : Nat} {xs : List PyData} (ds : List Item) (hn : 4 = kk) (hk : M[k]? = some (.live xs)) (e : xs = ds.map itD) (ok : PlOk R S u p ds) (h : ∀ M', Q (.r M'.length) (M' ++ [.live ((plI R S u ds p).map mkD)])) : gCall kk g_play Wh ρ Q [.d (.tuple [.int R, .int S]), .d (.int u), .d (.int p), .r k] M := by
  subst e
  have hc : cellsC [.d (.tuple [.int R, .int S]), .d (.int u), .d (.int p), .r k] M = some ([.d (.tuple [.int R, .int S]), .d (.int u), .d (.int p), .d (.list (ds.map itD))], M.set k (.fz (ds.map itD))) := by
    simp only [cellsC, cellC, asD, hk]
  refine w_gcall hn hc ?_
  exact ⟨ds, rfl, ok, w_retL (h _)⟩
theorem w_sourceG {ns : List Int} {at_ : Int} (hn : 2 = kk) (pre : 0 ≤ at_ ∧ at_ ≤ 1000) (h : ∀ a b, SrcOk a b 0 → Q (.r M.length) (M ++ [.live [.int a, .int b, .int 0]])) : gCall kk g__law_source Wh ρ Q [.s ns, .d (.int at_)] M := by
  refine w_gcall hn rfl ?_
  exact ⟨pre, fun a b h1 => w_retL (h a b h1)⟩
end
def GtI (x : PyData) : Prop := ∃ g t, x = .tuple [.int g, .int t] ∧ 1 ≤ g ∧ g ≤ 10 ^ 28 ∧ 1 ≤ t ∧ t ≤ 10 ^ 21

/-! ### motion: the aim stays, ways add up -/
theorem rest_shift {R f p d : Int} (h : 0 < R) (hd : (0 ≤ d ∧ d ≤ restI R f p) ∨ (restI R f p ≤ d ∧ d ≤ 0)) : restI R f (p + d) = restI R f p - d := by
  have e1 := Int.emod_add_mul_ediv (f - p + (R - 1) / 2) R
  have e2 := Int.emod_nonneg (f - p + (R - 1) / 2) (show R ≠ 0 by omega)
  have e3 := Int.emod_lt_of_pos (f - p + (R - 1) / 2) h
  unfold restI at *
  generalize hr : (f - p + (R - 1) / 2) % R = r at *
  generalize hq : (f - p + (R - 1) / 2) / R = q at *
  have hk : f - (p + d) + (R - 1) / 2 = (r - d) + R * q := by omega
  rw [hk, Int.add_mul_emod_self_left, Int.emod_eq_of_lt (by omega) (by omega)]
  omega
theorem rest_moved {R f p w : Int} (h : 0 < R) (hw : 0 ≤ w) : restI R f (movedI R f p w) = if -w ≤ restI R f p ∧ restI R f p ≤ w then 0 else if 0 < restI R f p then restI R f p - w else restI R f p + w := by
  unfold movedI
  split
  · rw [rest_shift h (by omega)]; omega
  · split
    · rw [rest_shift h (by omega)]
    · rw [Int.sub_eq_add_neg, rest_shift h (by omega)]; omega
theorem moved_aim {R f p w : Int} (h : 0 < R) (hw : 0 ≤ w) : movedI R f p w + restI R f (movedI R f p w) = p + restI R f p := by
  rw [rest_moved h hw]
  unfold movedI
  split <;> (try split) <;> omega
theorem moved_add {R f p w v : Int} (h : 0 < R) (hw : 0 ≤ w) (hv : 0 ≤ v) : movedI R f (movedI R f p w) v = movedI R f p (w + v) := by
  have e := @rest_moved R f p w h hw
  have e2 : ∀ q : Int, movedI R f q v = if -v ≤ restI R f q ∧ restI R f q ≤ v then q + restI R f q else if 0 < restI R f q then q + v else q - v := fun q => rfl
  rw [e2, e]
  unfold movedI
  (repeat' split) <;> omega
theorem moved_zero {R f p : Int} : movedI R f p 0 = p := by
  unfold movedI
  split <;> (try split) <;> omega
theorem rest_bd {R f p : Int} (h : 0 < R) : -((R - 1) / 2) ≤ restI R f p ∧ restI R f p ≤ R / 2 := by
  have e2 := Int.emod_nonneg (f - p + (R - 1) / 2) (show R ≠ 0 by omega)
  have e3 := Int.emod_lt_of_pos (f - p + (R - 1) / 2) h
  unfold restI
  omega
theorem moved_step {R f p u : Int} {i : Nat} (h : 0 < R) (hu : 0 ≤ u) : movedI R f (movedI R f p (u * (i : Int))) u = movedI R f p (u * ((i + 1 : Nat) : Int)) := by
  rw [moved_add h (Int.mul_nonneg hu (by omega)) hu]
  congr 1
  rw [Int.natCast_add, Int.mul_add]
  omega
theorem lost_aim {R f p w : Int} (h : 0 < R) (hw : 0 ≤ w) : lostI R f (movedI R f p w) = lostI R f p := by
  unfold lostI
  rw [moved_aim h hw]
/-! ### the same data on both sides -/
section
variable {M : Mem} {Q : Qx} {x y : Cell} {xs : List PyData}
theorem w_neLS (ha : derefS x M = some (.list xs)) (hb : derefS y M = some (.list xs)) (f : Fl 40 (.list xs)) (h : Q (.d (.bool false)) M) : pNe x y M Q := w_neG ha hb (w_eqL (Fl.sh f f (by decide) (by decide)) f.allL h)
theorem w_eqLS (ha : derefS x M = some (.list xs)) (hb : derefS y M = some (.list xs)) (f : Fl 40 (.list xs)) (h : Q (.d (.bool true)) M) : pEq x y M Q := w_eqG ha hb (w_eqL (Fl.sh f f (by decide) (by decide)) f.allL h)
theorem w_neTS (ha : derefS x M = some (.tuple xs)) (hb : derefS y M = some (.tuple xs)) (f : Fl 40 (.tuple xs)) (h : Q (.d (.bool false)) M) : pNe x y M Q := w_neG ha hb (w_eqT (Fl.sh f f (by decide) (by decide)) f.allT h)
theorem w_eqTS (ha : derefS x M = some (.tuple xs)) (hb : derefS y M = some (.tuple xs)) (f : Fl 40 (.tuple xs)) (h : Q (.d (.bool true)) M) : pEq x y M Q := w_eqG ha hb (w_eqT (Fl.sh f f (by decide) (by decide)) f.allT h)
end
/-! ### a def that takes the source alone and is always true -/
def srcTrue (k : Int) : Gs := fun cs M Q E => match cs, M with
  | [.r 0], [.live [.int a, .int b, .int c]] => (SrcOk a b c ∧ c + k ≤ 10 ^ 12) ∧ ∀ a' c', 0 ≤ a' → c ≤ c' → c' ≤ c + k → retDR Q [.int a', .int b, .int c'] (.bool true)
  | _, _ => False
theorem gs_srcTrue {k : Int} {Q : Qx} {E : Xc → Mem → Prop} {a b c : Int} (h : (SrcOk a b c ∧ c + k ≤ 10 ^ 12) ∧ ∀ a' c', 0 ≤ a' → c ≤ c' → c' ≤ c + k → retDR Q [.int a', .int b, .int c'] (.bool true)) : srcTrue k [.r 0] [.live [.int a, .int b, .int c]] Q E := h
theorem w_srcTrueG {M : Mem} {Q : Qx} {ρ : Rho} {Wh : Xc → Rho → Mem → Prop} {n kk : Nat} {a b c k : Int} (hn : 1 = kk) (hm : At n M b a c) (pre : SrcOk a b c ∧ c + k ≤ 10 ^ 12)
    (h : ∀ a' c' M', 0 ≤ a' → c ≤ c' → c' ≤ c + k → At n M' b a' c' → Kp n M M' → Q (.d (.bool true)) M') : gCallR kk (srcTrue k) Wh ρ Q [.r n] M := by
  refine w_gcallR hn rfl hm (gs_srcTrue ⟨pre, fun a' c' h1 h2 h3 => w_retDR (h a' c' _ h1 h2 h3 (at_set hm) kp_set)⟩)
theorem gs_rotor {Q : Qx} {E : Xc → Mem → Prop} {far a b c : Int} (h : ((SrcOk a b c ∧ c + 4 ≤ 10 ^ 12) ∧ 10 ≤ far ∧ far ≤ 10 ^ 30) ∧ ∀ R S a' c', WhI R S → R ≤ far + 2 → 0 ≤ a' → c ≤ c' → c' ≤ c + 4 → retDR Q [.int a', .int b, .int c'] (.tuple [.int R, .int S])) : g__law_rotor [.r 0, .d (.int far)] [.live [.int a, .int b, .int c]] Q E := h
/-! ### checks and functions of wheels, right arguments -/
def g_check_number : Gs := fun cs M Q E => match cs with
  | [.d (.int i)] => retD Q .none
  | _ => False
def g_check_place : Gs := fun cs M Q E => match cs with
  | [.d (.int i)] => retD Q .none
  | _ => False
def g_check_tick : Gs := fun cs M Q E => match cs with
  | [.d (.int i)] => 0 ≤ i ∧ retD Q .none
  | _ => False
def g_check_number_from : Gs := fun cs M Q E => match cs with
  | [.d (.int i), .d (.int l)] => l ≤ i ∧ retD Q .none
  | _ => False
def g_check_spot : Gs := fun cs M Q E => match cs with
  | [.d (.tuple [.int R, .int S]), .d (.int f), .d (.int p)] => WhI R S ∧ retD Q .none
  | _ => False
def g_aim_of : Gs := fun cs M Q E => match cs with
  | [.d (.tuple [.int R, .int S]), .d (.int f), .d (.int p)] => WhI R S ∧ retD Q (.int (p + restI R f p))
  | _ => False
def g_rest_of : Gs := fun cs M Q E => match cs with
  | [.d (.tuple [.int R, .int S]), .d (.int f), .d (.int p)] => WhI R S ∧ retD Q (.int (restI R f p))
  | _ => False
def g_lost_of : Gs := fun cs M Q E => match cs with
  | [.d (.tuple [.int R, .int S]), .d (.int f), .d (.int p)] => (WhI R S ∧ R < 10 ^ 100) ∧ retD Q (.int (lostI R f p))
  | _ => False
def g_fore_of : Gs := fun cs M Q E => match cs with
  | [.d (.tuple [.int R, .int S])] => WhI R S ∧ retD Q (.int (R / 2))
  | _ => False
def g_back_of : Gs := fun cs M Q E => match cs with
  | [.d (.tuple [.int R, .int S])] => WhI R S ∧ retD Q (.int ((R - 1) / 2))
  | _ => False
def g_pulled : Gs := fun cs M Q E => match cs with
  | [.d (.tuple [.int R, .int S]), .d (.int f), .d (.int p), .d (.int u), .d (.int t)] => (WhI R S ∧ 0 ≤ u ∧ 0 ≤ t ∧ CMulW u t) ∧ retD Q (.int (movedI R f p (u * t)))
  | _ => False

/-! ### a wish cut in two -/
theorem w_cut {p q : Ps} {D : En} {ρ : Rho} {M : Mem} (R : Rho → Mem → Prop) (h : ∀ N : Rho → Mem → Prop, (∀ ρ' M', R ρ' M' → N ρ' M') → p { D with nx := N } ρ M) (h2 : ∀ ρ' M', R ρ' M' → q D ρ' M') : pSeq p q D ρ M := h (q D) h2
theorem w_cutE {pe : Px} {ρ : Rho} {M : Mem} {Q : Qx} (R : Cell → Mem → Prop) (h : ∀ Q' : Qx, (∀ c M', R c M' → Q' c M') → pe ρ M Q') (h2 : ∀ c M', R c M' → Q c M') : pe ρ M Q := h Q h2
theorem moved_goal {R f p w : Int} (h : 0 < R) (hw : 0 ≤ w) : movedI R f (p + restI R f p) w = p + restI R f p := by
  have e : restI R f (p + restI R f p) = 0 := by rw [rest_shift h (by omega)]; omega
  unfold movedI
  rw [e]
  split <;> (try split) <;> omega
theorem ints_sh {is : List Int} : Fl 40 (.list (is.map PyData.int)) := .lst (n := 39) (Kt.Fl.ints)
section
variable {p q : Ps} {D : En} {ρ : Rho} {M : Mem} {pe pv : Px} {g : Pg} {pa : Pa}
theorem w_seqA (h : pAsg pe g { D with nx := q D } ρ M) : pSeq (pAsg pe g) q D ρ M := h
theorem w_seqPar {i j : Nat} (h : pPar i j pa { D with nx := q D } ρ M) : pSeq (pPar i j pa) q D ρ M := h
theorem w_seqPar3 {i j l : Nat} (h : pPar3 i j l pa { D with nx := q D } ρ M) : pSeq (pPar3 i j l pa) q D ρ M := h
theorem w_seqApp (h : pApp pe pv { D with nx := q D } ρ M) : pSeq (pApp pe pv) q D ρ M := h
theorem w_seqDrop (h : pDrop pe { D with nx := q D } ρ M) : pSeq (pDrop pe) q D ρ M := h
end
theorem deref_cons {M : Mem} {x : MC} {k : Nat} {xs : List PyData} (h : M[k]? = some (.live xs)) : deref (.r (k + 1)) (x :: M) = some (.list xs) := deref_of (by rw [List.getElem?_cons_succ]; exact h)
theorem at_app {M L : Mem} {k : Nat} {z : MC} (h : M[k]? = some z) : (M ++ L)[k]? = some z := by
  rw [List.getElem?_append_left (List.getElem?_eq_some_iff.mp h).1]
  exact h
theorem at_cons {M : Mem} {x z : MC} {k : Nat} (h : M[k]? = some z) : (x :: M)[k + 1]? = some z := by
  rw [List.getElem?_cons_succ]
  exact h
theorem derefS_of {M : Mem} {k : Nat} {xs : List PyData} (h : M[k]? = some (.live xs)) : derefS (.r k) M = some (.list xs) := by
  unfold derefS
  exact deref_of h
theorem deref_fz {M : Mem} {k : Nat} {xs : List PyData} (h : M[k]? = some (.fz xs)) : deref (.r k) M = some (.list xs) := by
  unfold deref
  dsimp only
  rw [h]
theorem derefS_fz {M : Mem} {k : Nat} {xs : List PyData} (h : M[k]? = some (.fz xs)) : derefS (.r k) M = some (.list xs) := by
  unfold derefS
  exact deref_fz h
/-! ### states, standing -/
def endI (R S u : Int) : List Item → Int → Int → Int → Int × Int × Int
  | [], a, b, c => (a, b, c)
  | (t, n) :: r, now, fl, here => endI R S u r t (fl + n * S) (movedI R fl here (u * (t - now)))
theorem end_cons {R S u t n now fl here : Int} {r : List Item} : endI R S u ((t, n) :: r) now fl here = endI R S u r t (fl + n * S) (movedI R fl here (u * (t - now))) := rfl
theorem marks_end {R S u : Int} : ∀ (ds : List Item) (a b c : Int), ∃ init, (a, b, c) :: marksI R S u ds a b c = init ++ [endI R S u ds a b c]
  | [], a, b, c => ⟨[], rfl⟩
  | (t, n) :: r, a, b, c => by
    obtain ⟨i, e⟩ := marks_end r t (b + n * S) (movedI R b c (u * (t - a)))
    exact ⟨(a, b, c) :: i, congrArg (List.cons (a, b, c)) e⟩
theorem marks_last {R S u : Int} (ds : List Item) (a b c : Int) : atI (((a, b, c) :: marksI R S u ds a b c).map mkD) (-1) = some (mkD (endI R S u ds a b c)) := by
  obtain ⟨i, e⟩ := marks_end (R := R) (S := S) (u := u) ds a b c
  rw [e, List.map_append]
  exact L2.atI_last _ _
theorem end_time {R S u : Int} {P : Int → Prop} : ∀ {ds : List Item} {a b c : Int}, P a → (∀ x ∈ ds, P x.1) → P (endI R S u ds a b c).1
  | [], _, _, _, h, _ => h
  | (t, n) :: r, _, _, _, _, h => end_time (ds := r) (h (t, n) List.mem_cons_self) fun x hx => h x (List.mem_cons_of_mem _ hx)
def pastI (t : Int) (ds : List Item) : List Item := ds.filter fun x => decide (x.1 ≤ t)
theorem asc_mono : ∀ {ds : List Item} {l l' : Int}, Asc ds l → l' ≤ l → Asc ds l'
  | [], _, _, _, _ => trivial
  | (t, n) :: r, l, l', h, hl => ⟨by have := h.1; omega, h.2.1, h.2.2⟩
theorem asc_past {t : Int} : ∀ {ds : List Item} {l : Int}, Asc ds l → Asc (pastI t ds) l
  | [], _, _ => trivial
  | (s, n) :: r, l, h => by
    unfold pastI
    rw [List.filter_cons]
    have ih := asc_past (t := t) h.2.2
    unfold pastI at ih
    split
    · exact ⟨h.1, h.2.1, ih⟩
    · exact asc_mono ih (by have := h.1; omega)
theorem asc_ge : ∀ {ds : List Item} {l : Int}, Asc ds l → ∀ x ∈ ds, l ≤ x.1
  | [], _, _, x, hx => by cases hx
  | (t, n) :: r, l, h, x, hx => by
    have h1 : l ≤ t := h.1
    rcases List.mem_cons.mp hx with rfl | hx
    · exact h1
    · have := asc_ge h.2.2 x hx
      omega
theorem past_len {t : Int} {ds : List Item} : (pastI t ds).length ≤ ds.length := List.length_filter_le _ _
theorem past_mem {t : Int} {ds : List Item} {x : Item} (h : x ∈ pastI t ds) : x ∈ ds ∧ x.1 ≤ t := by
  have := List.mem_filter.mp h
  exact ⟨this.1, of_decide_eq_true this.2⟩
theorem past_all {t : Int} {ds : List Item} (h : ∀ x ∈ ds, x.1 ≤ t) : pastI t ds = ds := List.filter_eq_self.mpr fun x hx => decide_eq_true (h x hx)
/-- the tick of the last item -/
def lastT (ds : List Item) : Int := match ds.getLast? with
  | some x => x.1
  | none => 0
theorem lastT_nil : lastT [] = 0 := rfl
theorem lastT_snoc {ds : List Item} {x : Item} : lastT (ds ++ [x]) = x.1 := by
  unfold lastT
  rw [List.getLast?_concat]
theorem end_append {R S u : Int} : ∀ (ds es : List Item) (a b c : Int), endI R S u (ds ++ es) a b c = endI R S u es (endI R S u ds a b c).1 (endI R S u ds a b c).2.1 (endI R S u ds a b c).2.2
  | [], _, _, _, _ => rfl
  | (t, n) :: r, es, a, b, c => end_append r es t (b + n * S) (movedI R b c (u * (t - a)))
theorem end_last {R S u b c : Int} {ds : List Item} : (endI R S u ds 0 b c).1 = lastT ds := by
  rcases List.eq_nil_or_concat ds with rfl | ⟨init, ⟨t, n⟩, rfl⟩
  · rfl
  · rw [List.concat_eq_append, end_append, lastT_snoc]
    rfl
theorem asc_le_last {ds : List Item} {l : Int} (h : Asc ds l) : ∀ x ∈ ds, x.1 ≤ lastT ds := by
  rcases List.eq_nil_or_concat ds with rfl | ⟨init, ⟨t, n⟩, rfl⟩
  · intro x hx; cases hx
  · rw [List.concat_eq_append] at *
    intro x hx
    rw [lastT_snoc]
    rcases List.mem_append.mp hx with hx | hx
    · have key : ∀ {init : List Item} {l : Int}, Asc (init ++ [(t, n)]) l → ∀ x ∈ init, x.1 ≤ t := fun {init} => by
        induction init with
        | nil => intro l _ x hx; cases hx
        | cons y r ih =>
          intro l h x hx
          rcases List.mem_cons.mp hx with rfl | hx
          · have := asc_last h.2.2
            omega
          · exact ih h.2.2 x hx
      exact key h x hx
    · cases List.mem_singleton.mp hx
      exact Int.le_refl _
theorem last_nonneg {ds : List Item} (h : Asc ds 0) : 0 ≤ lastT ds := by
  rcases List.eq_nil_or_concat ds with rfl | ⟨init, ⟨t, n⟩, rfl⟩
  · exact Int.le_refl _
  · rw [List.concat_eq_append] at *
    rw [lastT_snoc]
    exact asc_last h
def placeI (R S u p : Int) (ds : List Item) (t : Int) : Int := movedI R (endI R S u (pastI t ds) 0 0 p).2.1 (endI R S u (pastI t ds) 0 0 p).2.2 (u * (t - (endI R S u (pastI t ds) 0 0 p).1))
def fieldI (R S u p : Int) (ds : List Item) (t : Int) : Int := (endI R S u (pastI t ds) 0 0 p).2.1
def stateI (R S u p : Int) (ds : List Item) (t : Int) : Int × Int × Int := (fieldI R S u p ds t, placeI R S u p ds t, lostI R (fieldI R S u p ds t) (placeI R S u p ds t))
def absI (i : Int) : Int := if i < 0 then -i else i
def ticksD (R f p u : Int) : PyData := if absI (restI R f p) = 0 then .int 0 else if u = 0 then .none else .int ((absI (restI R f p) + u - 1) / u)
def g_ticks_to_aim : Gs := fun cs M Q E => match cs with
  | [.d (.tuple [.int R, .int S]), .d (.int f), .d (.int p), .d (.int u)] => (0 < R ∧ 0 ≤ u ∧ u < 10 ^ 100) ∧ retD Q (ticksD R f p u)
  | _ => False
def standD (R S u p : Int) (ds : List Item) : PyData :=
  if absI (restI R (endI R S u ds 0 0 p).2.1 (endI R S u ds 0 0 p).2.2) = 0 then .int (lastT ds) else if u = 0 then .none else .int (lastT ds + (absI (restI R (endI R S u ds 0 0 p).2.1 (endI R S u ds 0 0 p).2.2) + u - 1) / u)
def g_state_at : Gs := fun cs M Q E => match cs, M with
  | [.d (.tuple [.int R, .int S]), .d (.int u), .d (.int p), .d (.list xs), .d (.int t)], [] => ∃ ds : List Item, xs = ds.map itD ∧ (PlOk R S u p ds ∧ 0 ≤ t ∧ Sm t) ∧ retD Q (mkD (stateI R S u p ds t))
  | _, _ => False
def g_stands_from : Gs := fun cs M Q E => match cs, M with
  | [.d (.tuple [.int R, .int S]), .d (.int u), .d (.int p), .d (.list xs)], [] => ∃ ds : List Item, xs = ds.map itD ∧ (PlOk R S u p ds ∧ u < 10 ^ 100) ∧ retD Q (standD R S u p ds)
  | _, _ => False
/-- a comprehension with a test -/
theorem runC_fmap {g : Pg} {pt : Pt} {pe : Px} {ρ : Rho} {Q : Qx} {xs : List PyData} {M : Mem} {f : PyData → Bool} {h : PyData → PyData} (hlen : xs.length ≤ 100000) (hs : ∀ x ∈ xs, ∀ (acc : List PyData) (N : List PyData → Mem → Prop), acc.length < sizeLine → (f x = true → N (acc ++ [h x]) M) → (f x = false → N acc M) →
    g (.d x) ρ M fun ρ2 M2 => pt ρ2 M2 fun b M3 => (b = true → pe ρ2 M3 fun c M4 => match asD c M4 with
      | some (d, M5) => acc.length < sizeLine ∧ N (acc ++ [d]) M5
      | none => False) ∧ (b = false → N acc M3)) (hd : Q (.r M.length) (M ++ [.live ((xs.filter f).map h)])) : runC g pt pe ρ Q xs [] M := by
  refine runC_invM (fun i acc => acc = ((xs.take i).filter f).map h) rfl (fun i x acc N hx hI hN => ?_) fun acc hI => ?_
  · subst hI
    have hl : (((xs.take i).filter f).map h).length < sizeLine := small_lt (by
      rw [List.length_map]
      have := List.length_filter_le f (xs.take i)
      rw [List.length_take] at this
      omega)
    refine hs x (List.mem_of_getElem? hx) _ N hl (fun e => hN _ ?_) (fun e => hN _ ?_)
    · rw [take_succ_get hx, List.filter_append, List.map_append, List.filter_cons, if_pos e]
      rfl
    · rw [take_succ_get hx, List.filter_append, List.filter_cons, if_neg (by rw [e]; exact nofun)]
      show _ = ((xs.take i).filter f ++ []).map h
      rw [List.append_nil]
  · rw [List.take_length] at hI
    subst hI
    exact hd
def pastB (t : Int) : PyData → Bool
  | .tuple [.int s, .int _] => decide (s ≤ t)
  | _ => false
theorem past_map {t : Int} : ∀ {ds : List Item}, ((ds.map itD).filter (pastB t)).map id = (pastI t ds).map itD
  | [] => rfl
  | (s, n) :: r => by
    have ih := past_map (t := t) (ds := r)
    unfold pastI at *
    rw [List.map_cons, List.filter_cons, List.filter_cons]
    by_cases h : s ≤ t
    · rw [if_pos (show pastB t (itD (s, n)) = true from decide_eq_true h), if_pos (decide_eq_true h), List.map_cons, List.map_cons, ih]
      rfl
    · rw [if_neg (show ¬ pastB t (itD (s, n)) = true from by show ¬ decide (s ≤ t) = true; rw [decide_eq_false h]; exact nofun), if_neg (by rw [decide_eq_true_eq]; exact h), ih]
theorem asL_of {M : Mem} {k : Nat} {xs : List PyData} (h : M[k]? = some (.live xs)) : asL (.r k) M = some (xs, M.set k (.fz xs)) := by
  simp only [asL, asD, h]
theorem asL_fz {M : Mem} {k : Nat} {xs : List PyData} (h : M[k]? = some (.fz xs)) : asL (.r k) M = some (xs, M) := by
  simp only [asL, asD, h]
theorem at_ne {M : Mem} {n k : Nat} {z w : MC} (hn : k ≠ n) (h : M[n]? = some z) : (M.set k w)[n]? = some z := by
  rw [List.getElem?_set_ne hn]
  exact h
theorem at_lt {M : Mem} {n : Nat} {z : MC} (h : M[n]? = some z) : n < M.length := (List.getElem?_eq_some_iff.mp h).1
theorem w_isNI {M : Mem} {Q : Qx} {i : Int} {neg : Bool} (h : Q (.d (.bool neg)) M) : pIsN neg (.d (.int i)) (.d .none) M Q := h
theorem w_isNN {M : Mem} {Q : Qx} {neg : Bool} (h : Q (.d (.bool (!neg))) M) : pIsN neg (.d .none) (.d .none) M Q := h
theorem w_isNT {M : Mem} {Q : Qx} {xs : List PyData} {neg : Bool} (h : Q (.d (.bool neg)) M) : pIsN neg (.d (.tuple xs)) (.d .none) M Q := h
theorem w_isNL {M : Mem} {Q : Qx} {xs : List PyData} {neg : Bool} (h : Q (.d (.bool neg)) M) : pIsN neg (.d (.list xs)) (.d .none) M Q := h
theorem w_isNR {M : Mem} {Q : Qx} {n : Nat} {neg : Bool} (h : Q (.d (.bool neg)) M) : pIsN neg (.r n) (.d .none) M Q := h
theorem ceil_eq' {a u : Int} (h : 0 < u) : (0 - a) / u = -((a + u - 1) / u) := by
  have d1 := Int.emod_add_mul_ediv (a + u - 1) u
  have d2 := Int.emod_lt_of_pos (a + u - 1) h
  have d3 := Int.emod_nonneg (a + u - 1) (show u ≠ 0 by omega)
  generalize (a + u - 1) / u = q at *
  generalize (a + u - 1) % u = r at *
  have : 0 - a = (u - 1 - r) + u * (-q) := by rw [Int.mul_neg]; omega
  rw [this, Int.add_mul_ediv_left _ _ (by omega), Int.ediv_eq_zero_of_lt (by omega) (by omega)]
  omega
theorem w_mulL {M : Mem} {Q : Qx} {x y : Cell} {a ys : List PyData} {k : Int} (m1 : deref x M = some (.list a)) (m2 : deref y M = some (.int k)) (hk : -(2 ^ 63) ≤ k ∧ k < 2 ^ 63 ∧ a.length * k.toNat ≤ sizeLine) (e : (List.replicate k.toNat a).flatten = ys) (h : Q (.r M.length) (M ++ [.live ys])) : pMul x y M Q := by
  subst e
  unfold pMul
  rw [m1, m2]
  exact ⟨hk, h⟩
theorem cells1 {M : Mem} {k : Nat} {xs : List PyData} (h : M[k]? = some (.live xs)) : cellsC [.r k] M = some ([.d (.list xs)], M.set k (.fz xs)) := by simp only [cellsC, cellC, asD, h]
theorem cells1d {M : Mem} {k : Nat} {xs : List PyData} {d : PyData} (h : M[k]? = some (.live xs)) : cellsC [.r k, .d d] M = some ([.d (.list xs), .d d], M.set k (.fz xs)) := by simp only [cellsC, cellC, asD, h]
theorem at_self {M : Mem} {k : Nat} {z w : MC} (h : M[k]? = some w) : (M.set k z)[k]? = some z := List.getElem?_set_self (at_lt h)
theorem w_appC {D : En} {ρ : Rho} {M : Mem} {i n : Nat} {d : PyData} {xs : List PyData} (e : ρ[i]? = some (some (.r n))) (hm : M[n]? = some (.live xs)) (hl : xs.length < sizeLine) (h : D.nx ρ (M.set n (.live (xs ++ [d])))) : pApp (pVar i) (pC d) D ρ M :=
  w_app (w_var e ⟨⟨xs, .inl hm⟩, w_c (w_apQ rfl hm hl h)⟩)
theorem moved_full {R f p w : Int} (h : absI (restI R f p) ≤ w) : movedI R f p w = p + restI R f p := by
  unfold absI at h
  unfold movedI
  rw [if_pos (by split at h <;> omega)]
theorem abs_bd {i : Int} : 0 ≤ absI i := by unfold absI; split <;> omega
/-- behind the tick told the state stays, its rest is 0 -/
theorem stand_ok {R S u p T : Int} {ds : List Item} (hR : 0 < R) (hu : 0 ≤ u) (ha : Asc ds 0) (h : standD R S u p ds = .int T) : lastT ds ≤ T ∧ restI R (fieldI R S u p ds T) (placeI R S u p ds T) = 0 ∧ ∀ m, 0 ≤ m → stateI R S u p ds (T + m) = stateI R S u p ds T := by
  have l0 := last_nonneg ha
  have pa : ∀ t, lastT ds ≤ t → pastI t ds = ds := fun t ht => past_all fun x hx => Int.le_trans (asc_le_last ha x hx) ht
  have el := @end_last R S u 0 p ds
  unfold standD at h
  unfold stateI fieldI placeI
  generalize he : endI R S u ds 0 0 p = e at *
  have a0 := @abs_bd (restI R e.2.1 e.2.2)
  have full : ∀ w, absI (restI R e.2.1 e.2.2) ≤ w → movedI R e.2.1 e.2.2 w = e.2.2 + restI R e.2.1 e.2.2 := fun w hw => moved_full hw
  have rz : restI R e.2.1 (e.2.2 + restI R e.2.1 e.2.2) = 0 := by
    rw [rest_shift hR (by omega)]
    omega
  have fin : ∀ T, lastT ds ≤ T → absI (restI R e.2.1 e.2.2) ≤ u * (T - lastT ds) → lastT ds ≤ T ∧ restI R (endI R S u (pastI T ds) 0 0 p).2.1 (movedI R (endI R S u (pastI T ds) 0 0 p).2.1 (endI R S u (pastI T ds) 0 0 p).2.2 (u * (T - (endI R S u (pastI T ds) 0 0 p).1))) = 0 ∧
      ∀ m, 0 ≤ m → ((endI R S u (pastI (T + m) ds) 0 0 p).2.1, movedI R (endI R S u (pastI (T + m) ds) 0 0 p).2.1 (endI R S u (pastI (T + m) ds) 0 0 p).2.2 (u * (T + m - (endI R S u (pastI (T + m) ds) 0 0 p).1)), lostI R (endI R S u (pastI (T + m) ds) 0 0 p).2.1 (movedI R (endI R S u (pastI (T + m) ds) 0 0 p).2.1 (endI R S u (pastI (T + m) ds) 0 0 p).2.2 (u * (T + m - (endI R S u (pastI (T + m) ds) 0 0 p).1)))) =
        ((endI R S u (pastI T ds) 0 0 p).2.1, movedI R (endI R S u (pastI T ds) 0 0 p).2.1 (endI R S u (pastI T ds) 0 0 p).2.2 (u * (T - (endI R S u (pastI T ds) 0 0 p).1)), lostI R (endI R S u (pastI T ds) 0 0 p).2.1 (movedI R (endI R S u (pastI T ds) 0 0 p).2.1 (endI R S u (pastI T ds) 0 0 p).2.2 (u * (T - (endI R S u (pastI T ds) 0 0 p).1)))) := by
    intro T hT hw
    refine ⟨hT, ?_, fun m hm => ?_⟩
    · rw [pa T hT, he, el, full _ hw]
      exact rz
    · have hm' : u * (T - lastT ds) ≤ u * (T + m - lastT ds) := Int.mul_le_mul_of_nonneg_left (by omega) hu
      rw [pa T hT, pa (T + m) (by omega), he, el, full _ hw, full _ (by omega)]
  split at h
  · rename_i h0
    cases h
    refine fin _ (Int.le_refl _) ?_
    rw [h0, Int.sub_self, Int.mul_zero]
    exact Int.le_refl _
  · split at h
    · cases h
    · cases h
      have hu' : 0 < u := by omega
      have d1 := Int.emod_add_mul_ediv (absI (restI R e.2.1 e.2.2) + u - 1) u
      have d2 := Int.emod_lt_of_pos (absI (restI R e.2.1 e.2.2) + u - 1) hu'
      have d3 := Int.emod_nonneg (absI (restI R e.2.1 e.2.2) + u - 1) (show u ≠ 0 by omega)
      have d4 : 0 ≤ (absI (restI R e.2.1 e.2.2) + u - 1) / u := Int.ediv_nonneg (by omega) hu
      refine fin _ (by omega) ?_
      rw [show lastT ds + (absI (restI R e.2.1 e.2.2) + u - 1) / u - lastT ds = (absI (restI R e.2.1 e.2.2) + u - 1) / u from by omega]
      omega
theorem ceil_eq {a u : Int} (h : 0 < u) : (0 - a) / u = -((a + u - 1) / u) := by
  have d1 := Int.emod_add_mul_ediv (a + u - 1) u
  have d2 := Int.emod_lt_of_pos (a + u - 1) h
  have d3 := Int.emod_nonneg (a + u - 1) (show u ≠ 0 by omega)
  generalize (a + u - 1) / u = q at *
  generalize (a + u - 1) % u = r at *
  have : 0 - a = (u - 1 - r) + u * (-q) := by rw [Int.mul_neg]; omega
  rw [this, Int.add_mul_ediv_left _ _ (by omega), Int.ediv_eq_zero_of_lt (by omega) (by omega)]
  omega
theorem end_bd {R S u : Int} : ∀ (ds : List Item) (l last fl here k : Int), Asc ds l → last ≤ l → 0 ≤ last → last ≤ 10 ^ 31 → (∀ x ∈ ds, ItOk x) → 0 ≤ u → WhI R S → R ≤ 10 ^ 30 → 0 ≤ k → (-(k * 10 ^ 52) ≤ fl ∧ fl ≤ k * 10 ^ 52) → (-((k + 1) * 10 ^ 31) ≤ here ∧ here ≤ (k + 1) * 10 ^ 31) →
    (0 ≤ (endI R S u ds last fl here).1 ∧ (endI R S u ds last fl here).1 ≤ 10 ^ 31) ∧ (-((k + ds.length) * 10 ^ 52) ≤ (endI R S u ds last fl here).2.1 ∧ (endI R S u ds last fl here).2.1 ≤ (k + ds.length) * 10 ^ 52) ∧ (-((k + ds.length + 1) * 10 ^ 31) ≤ (endI R S u ds last fl here).2.2 ∧ (endI R S u ds last fl here).2.2 ≤ (k + ds.length + 1) * 10 ^ 31)
  | [], _, _, _, _, k, _, _, h2, h2', _, _, _, _, _, h8, h9 => by
    show (0 ≤ _ ∧ _ ≤ _) ∧ (-((k + ((0 : Nat) : Int)) * 10 ^ 52) ≤ _ ∧ _ ≤ (k + ((0 : Nat) : Int)) * 10 ^ 52) ∧ _
    refine ⟨⟨h2, h2'⟩, ⟨by unfold endI; dsimp only; omega, by unfold endI; dsimp only; omega⟩, ⟨by unfold endI; dsimp only [List.length]; omega, by unfold endI; dsimp only [List.length]; omega⟩⟩
  | (t, n) :: r, l, last, fl, here, k, ha, h1, h2, h2', h3, h4, h5, h6, h7, h8, h9 => by
    obtain ⟨a1, a2, a3⟩ := ha
    obtain ⟨s1, s2, s3⟩ := h3 (t, n) List.mem_cons_self
    dsimp only at s1 s2 s3
    obtain ⟨w1, w2, w3⟩ := h5
    have bd := bdm s2 s3 (show (0 : Int) ≤ S by omega) (by omega)
    have mb := @moved_bd R fl here (u * (t - last)) (by omega) (Int.mul_nonneg h4 (by omega))
    have ih := end_bd r (t + 1) t (fl + n * S) (movedI R fl here (u * (t - last))) (k + 1) a3 (by omega) (by omega) s1 (fun x hx => h3 x (List.mem_cons_of_mem _ hx)) h4 ⟨w1, w2, w3⟩ h6 (by omega) ⟨by omega, by omega⟩ ⟨by omega, by omega⟩
    rw [end_cons, List.length_cons]
    obtain ⟨⟨b1, b2⟩, ⟨b3, b4⟩, ⟨b5, b6⟩⟩ := ih
    refine ⟨⟨b1, b2⟩, ⟨by omega, by omega⟩, ⟨by omega, by omega⟩⟩
theorem plan_past {t : Int} {ds : List Item} (h : PlanOk ds) : PlanOk (pastI t ds) := ⟨Nat.le_trans past_len h.1, asc_past h.2.1, fun x hx => h.2.2 x (past_mem hx).1⟩
theorem end_bds {R S u p : Int} {ds : List Item} (h : PreOk R S u p ds) : (0 ≤ (endI R S u ds 0 0 p).1 ∧ (endI R S u ds 0 0 p).1 ≤ 10 ^ 31) ∧ (-(10 ^ 54) ≤ (endI R S u ds 0 0 p).2.1 ∧ (endI R S u ds 0 0 p).2.1 ≤ 10 ^ 54) ∧ (-(10 ^ 33) ≤ (endI R S u ds 0 0 p).2.2 ∧ (endI R S u ds 0 0 p).2.2 ≤ 10 ^ 33) := by
  obtain ⟨w, h2, h3, h4, ⟨h5, h5b⟩, ⟨h6, h7, h8⟩⟩ := h
  obtain ⟨w1, w2, w3⟩ := w
  obtain ⟨b1, ⟨b3, b4⟩, ⟨b5, b6⟩⟩ := end_bd (R := R) (S := S) (u := u) ds 0 0 0 p 0 h7 (by omega) (by omega) (by omega) h8 h3 ⟨w1, w2, w3⟩ h2 (by omega) ⟨by omega, by omega⟩ ⟨by omega, by omega⟩
  exact ⟨b1, ⟨by omega, by omega⟩, ⟨by omega, by omega⟩⟩
theorem PreOk.past {R S u p t : Int} {ds : List Item} (h : PreOk R S u p ds) : PreOk R S u p (pastI t ds) := ⟨h.1, h.2.1, h.2.2.1, h.2.2.2.1, h.2.2.2.2.1, plan_past h.2.2.2.2.2⟩
theorem state_bds {R S u p t : Int} {ds : List Item} (h : PreOk R S u p ds) (t0 : 0 ≤ t) : Sm9 (stateI R S u p ds t).1 ∧ Sm9 (stateI R S u p ds t).2.1 ∧ (-(10 ^ 190) ≤ (stateI R S u p ds t).2.2 ∧ (stateI R S u p ds t).2.2 < 10 ^ 190) ∧ Sm9 ((stateI R S u p ds t).2.1 - (stateI R S u p ds t).1) := by
  obtain ⟨⟨b1, b2⟩, ⟨b3, b4⟩, ⟨b5, b6⟩⟩ := end_bds (h.past (t := t))
  have hR : 0 < R := by have := h.1.1; omega
  have hR2 := h.2.1
  have ht : (endI R S u (pastI t ds) 0 0 p).1 ≤ t := end_time (P := fun x => x ≤ t) t0 fun x hx => (past_mem hx).2
  have mb := @moved_bd R (endI R S u (pastI t ds) 0 0 p).2.1 (endI R S u (pastI t ds) 0 0 p).2.2 (u * (t - (endI R S u (pastI t ds) 0 0 p).1)) hR (Int.mul_nonneg h.2.2.1 (by omega))
  unfold stateI fieldI placeI
  dsimp only
  generalize (endI R S u (pastI t ds) 0 0 p).2.1 = f at *
  generalize movedI R f (endI R S u (pastI t ds) 0 0 p).2.2 (u * (t - (endI R S u (pastI t ds) 0 0 p).1)) = q at *
  have rb := @rest_bd R f q hR
  refine ⟨⟨by omega, by omega⟩, ⟨by omega, by omega⟩, ?_, ⟨by omega, by omega⟩⟩
  unfold lostI
  exact Sm9.div ⟨by omega, by omega⟩ hR
theorem state_shw {R S u p t : Int} {ds : List Item} (h : PreOk R S u p ds) (t0 : 0 ≤ t) : Shw 1 3 (mkD (stateI R S u p ds t)) := by
  obtain ⟨⟨a1, a2⟩, ⟨a3, a4⟩, ⟨a5, a6⟩, _⟩ := state_bds h t0
  exact .tup (n := 0) (b := 0) (Kt.all_c (.int ⟨by omega, by omega⟩) (Kt.all_c (.int ⟨by omega, by omega⟩) (Kt.all_c (.int ⟨by omega, by omega⟩) Kt.all_n))) (Nat.le_refl _)
theorem plan_shw {ds : List Item} (h : PlanOk ds) : Shw 2 400 (.list (ds.map itD)) := .lst (b := 2) (fun x hx => by
    obtain ⟨m, hm, rfl⟩ := List.mem_map.mp hx
    obtain ⟨a1, a2, a3⟩ := h.2.2 m hm
    have a0 := asc_ge h.2.1 m hm
    exact .tup (n := 0) (b := 0) (Kt.all_c (.int ⟨by omega, by omega⟩) (Kt.all_c (.int ⟨by omega, by omega⟩) Kt.all_n)) (Nat.le_refl _)) (by rw [List.length_map]; have := h.1; omega)
theorem two_rp {a b : PyData} {n c m d : Nat} (h : Shw n c a) (h' : Shw m d b) (hn : n ≤ 10) (hm : m ≤ 10) (hc : c ≤ 1000) (hd : d ≤ 1000) : reprOk (.list [a, b]) := by
  have e : Shw 10 1000 a := ⟨h.lay, Nat.le_trans h.dep hn, h.sho, h.lvs, Nat.le_trans h.blk hc⟩
  have e' : Shw 10 1000 b := ⟨h'.lay, Nat.le_trans h'.dep hm, h'.sho, h'.lvs, Nat.le_trans h'.blk hd⟩
  exact (Shw.lst (n := 10) (b := 1000) (c := 2002) (Kt.all_c e (Kt.all_c e' Kt.all_n)) (Nat.le_refl _)).rp (by decide) (by decide)
theorem stand_shw {R S u p : Int} {ds : List Item} (h : PreOk R S u p ds) : Shw 0 0 (standD R S u p ds) := by
  obtain ⟨w, h2, h3, h4, ⟨h5, h5b⟩, h6⟩ := h
  have hR : 0 < R := by have := w.1; omega
  have l0 := last_nonneg h6.2.1
  have l1 : lastT ds ≤ 10 ^ 31 := by
    rcases List.eq_nil_or_concat ds with rfl | ⟨init, ⟨t, n⟩, rfl⟩
    · decide
    · rw [List.concat_eq_append] at *
      rw [lastT_snoc]
      exact (h6.2.2 _ (List.mem_append_right _ List.mem_cons_self)).1
  have rb := @rest_bd R (endI R S u ds 0 0 p).2.1 (endI R S u ds 0 0 p).2.2 hR
  unfold standD
  split
  · exact .int ⟨by omega, by omega⟩
  · split
    · exact .non
    · have ab : absI (restI R (endI R S u ds 0 0 p).2.1 (endI R S u ds 0 0 p).2.2) ≤ R := by unfold absI; split <;> omega
      have a0 := @abs_bd (restI R (endI R S u ds 0 0 p).2.1 (endI R S u ds 0 0 p).2.2)
      have d1 : 0 ≤ (absI (restI R (endI R S u ds 0 0 p).2.1 (endI R S u ds 0 0 p).2.2) + u - 1) / u := Int.ediv_nonneg (by omega) h3
      have d2 : (absI (restI R (endI R S u ds 0 0 p).2.1 (endI R S u ds 0 0 p).2.2) + u - 1) / u ≤ absI (restI R (endI R S u ds 0 0 p).2.1 (endI R S u ds 0 0 p).2.2) + u - 1 := Int.ediv_le_self _ (by omega)
      exact .int ⟨by omega, by omega⟩
theorem PreOk.last_le {R S u p : Int} {ds : List Item} (h : PreOk R S u p ds) : 0 ≤ lastT ds ∧ lastT ds ≤ 10 ^ 31 := by
  rw [← @end_last R S u 0 p ds]
  exact (end_bds h).1
theorem cut_sub {xs : List PyData} {lo hi : Option Int} : ∀ x ∈ Kt.cutD xs lo hi, x ∈ xs := fun x hx => List.mem_of_mem_drop (List.mem_of_mem_take hx)
theorem cut_len {xs : List PyData} {lo hi : Option Int} : (Kt.cutD xs lo hi).length ≤ xs.length := by
  unfold Kt.cutD
  rw [List.length_take, List.length_drop]
  omega
def tickD : PyData → PyData
  | .tuple (x :: _) => x
  | d => d
theorem field_last {R S u p : Int} {ds : List Item} (h : Asc ds 0) : fieldI R S u p ds (lastT ds) = (endI R S u ds 0 0 p).2.1 := by
  unfold fieldI
  rw [past_all (asc_le_last h)]
theorem place_last {R S u p : Int} {ds : List Item} (h : Asc ds 0) : placeI R S u p ds (lastT ds) = (endI R S u ds 0 0 p).2.2 := by
  unfold placeI
  rw [past_all (asc_le_last h), end_last, Int.sub_self, Int.mul_zero, moved_zero]
theorem stand_cases {R S u p : Int} {ds : List Item} : standD R S u p ds = .none ∨ ∃ T, standD R S u p ds = .int T := by
  unfold standD
  split
  · exact .inr ⟨_, rfl⟩
  · split
    · exact .inl rfl
    · exact .inr ⟨_, rfl⟩
theorem stand_le {R S u p T : Int} {ds : List Item} (h : PreOk R S u p ds) (e : standD R S u p ds = .int T) : T ≤ 10 ^ 33 := by
  have ll := h.last_le
  obtain ⟨w, h2, h3, h4, ⟨h5, h5b⟩, h6⟩ := h
  have hR : 0 < R := by have := w.1; omega
  have rb := @rest_bd R (endI R S u ds 0 0 p).2.1 (endI R S u ds 0 0 p).2.2 hR
  unfold standD at e
  split at e
  · cases e; omega
  · split at e
    · cases e
    · have ab : absI (restI R (endI R S u ds 0 0 p).2.1 (endI R S u ds 0 0 p).2.2) ≤ R := by unfold absI; split <;> omega
      have a0 := @abs_bd (restI R (endI R S u ds 0 0 p).2.1 (endI R S u ds 0 0 p).2.2)
      have d2 : (absI (restI R (endI R S u ds 0 0 p).2.1 (endI R S u ds 0 0 p).2.2) + u - 1) / u ≤ absI (restI R (endI R S u ds 0 0 p).2.1 (endI R S u ds 0 0 p).2.2) + u - 1 := Int.ediv_le_self _ (by omega)
      cases e
      omega
theorem sm_t {t : Int} (h0 : 0 ≤ t) (h1 : t ≤ 10 ^ 34) : Sm t := ⟨by omega, by omega⟩
theorem mk_fl {x : Int × Int × Int} {n : Nat} : Fl (n + 1) (mkD x) := .tup (Kt.all_c .int (Kt.all_c .int (Kt.all_c .int Kt.all_n)))
section
variable {M : Mem} {Q : Qx} {ρ : Rho} {Wh : Xc → Rho → Mem → Prop} {n kk : Nat} {a b c : Int}
theorem at_fz {k : Nat} {z : MC} (hm : At n M b a c) (nk : n ≠ k) : At n (M.set k z) b a c := by
  unfold At
  rw [List.getElem?_set_ne (fun e => nk e.symm)]
  exact hm
theorem w_standG {R S u p : Int} {k : Nat} {xs : List PyData} (ds : List Item) (hn : 4 = kk) (hk : M[k]? = some (.live xs) ∨ M[k]? = some (.fz xs)) (e : xs = ds.map itD) (ok : PlOk R S u p ds ∧ u < 10 ^ 100) (h : ∀ M', M'[k]? = some (.fz xs) → Kp k M M' → Q (.d (standD R S u p ds)) M') : gCall kk g_stands_from Wh ρ Q [.d (.tuple [.int R, .int S]), .d (.int u), .d (.int p), .r k] M := by
  subst e
  rcases hk with hk | hk
  · have hc : cellsC [.d (.tuple [.int R, .int S]), .d (.int u), .d (.int p), .r k] M = some ([.d (.tuple [.int R, .int S]), .d (.int u), .d (.int p), .d (.list (ds.map itD))], M.set k (.fz (ds.map itD))) := by
      simp only [cellsC, cellC, asD, hk]
    refine w_gcall hn hc ⟨ds, rfl, ok, w_retD (h _ ?_ kp_set)⟩
    rw [List.getElem?_set_self (List.getElem?_eq_some_iff.mp hk).1]
  · have hc : cellsC [.d (.tuple [.int R, .int S]), .d (.int u), .d (.int p), .r k] M = some ([.d (.tuple [.int R, .int S]), .d (.int u), .d (.int p), .d (.list (ds.map itD))], M) := by
      simp only [cellsC, cellC, asD, hk]
    exact w_gcall hn hc ⟨ds, rfl, ok, w_retD (h _ hk ⟨Nat.le_refl _, fun _ _ _ => rfl⟩)⟩
end

end
end Lw

set_option Elab.async false
set_option linter.all false
set_option maxRecDepth 100000
set_option maxHeartbeats 4000000
namespace Lw
open PySem PySem.Spec PyProof.Rows L2 Kt
/-! ### the second family's draws -/
def g__law_tank : Gs := g__law_source
def g__law_tap : Gs := g__law_draw
theorem gs_tap {Q : Qx} {E : Xc → Mem → Prop} {many a b c : Int} (h : (SrcOk a b c ∧ 0 < many ∧ many < 10 ^ 90) ∧ ∀ d a' c', 0 ≤ d → d < many → 0 ≤ a' → c ≤ c' → c' ≤ c + 1 → retDR Q [.int a', .int b, .int c'] (.int d)) : g__law_tap [.r 0, .d (.int many)] [.live [.int a, .int b, .int c]] Q E := h
def g__law_disc : Gs := fun cs M Q E => match cs, M with
  | [.r 0, .d (.int top)], [.live [.int a, .int b, .int c]] => ((SrcOk a b c ∧ c + 4 ≤ 10 ^ 12) ∧ 1 ≤ top ∧ top ≤ 10 ^ 30) ∧ ∀ R S a' c', WhI R S → R ≤ top + 2 → 0 ≤ a' → c ≤ c' → c' ≤ c + 4 → retDR Q [.int a', .int b, .int c'] (.tuple [.int R, .int S])
  | _, _ => False
theorem gs_disc {Q : Qx} {E : Xc → Mem → Prop} {top a b c : Int} (h : ((SrcOk a b c ∧ c + 4 ≤ 10 ^ 12) ∧ 1 ≤ top ∧ top ≤ 10 ^ 30) ∧ ∀ R S a' c', WhI R S → R ≤ top + 2 → 0 ≤ a' → c ≤ c' → c' ≤ c + 4 → retDR Q [.int a', .int b, .int c'] (.tuple [.int R, .int S])) : g__law_disc [.r 0, .d (.int top)] [.live [.int a, .int b, .int c]] Q E := h
def g__law_begin : Gs := g__law_spot
theorem gs_begin {Q : Qx} {E : Xc → Mem → Prop} {R S a b c : Int} (h : ((SrcOk a b c ∧ c + 2 ≤ 10 ^ 12) ∧ 3 ≤ R ∧ R ≤ 10 ^ 31) ∧ ∀ p a' c', BgI R p → 0 ≤ a' → c ≤ c' → c' ≤ c + 2 → retDR Q [.int a', .int b, .int c'] (.int p)) : g__law_begin [.r 0, .d (.tuple [.int R, .int S])] [.live [.int a, .int b, .int c]] Q E := h
section
variable {M : Mem} {Q : Qx} {ρ : Rho} {Wh : Xc → Rho → Mem → Prop} {n kk : Nat} {a b c : Int}
theorem w_tapG {many : Int} (hn : 2 = kk) (hm : At n M b a c) (pre : SrcOk a b c ∧ 0 < many ∧ many < 10 ^ 90)
    (h : ∀ d a' c' M', 0 ≤ d → d < many → 0 ≤ a' → c ≤ c' → c' ≤ c + 1 → At n M' b a' c' → Kp n M M' → Q (.d (.int d)) M') : gCallR kk g__law_tap Wh ρ Q [.r n, .d (.int many)] M := w_drawG hn hm pre h
theorem w_discG {top : Int} (hn : 2 = kk) (hm : At n M b a c) (pre : (SrcOk a b c ∧ c + 4 ≤ 10 ^ 12) ∧ 1 ≤ top ∧ top ≤ 10 ^ 30)
    (h : ∀ R S a' c' M', WhI R S → R ≤ top + 2 → 0 ≤ a' → c ≤ c' → c' ≤ c + 4 → At n M' b a' c' → Kp n M M' → Q (.d (.tuple [.int R, .int S])) M') : gCallR kk g__law_disc Wh ρ Q [.r n, .d (.int top)] M :=
  w_gcallR hn rfl hm (gs_disc ⟨pre, fun R S a' c' h1 h2 h3 h4 h5 => w_retDR (h R S a' c' _ h1 h2 h3 h4 h5 (at_set hm) kp_set)⟩)
theorem w_tankG {ns : List Int} {at_ : Int} (hn : 2 = kk) (pre : 0 ≤ at_ ∧ at_ ≤ 1000) (h : ∀ a b, SrcOk a b 0 → Q (.r M.length) (M ++ [.live [.int a, .int b, .int 0]])) : gCall kk g__law_tank Wh ρ Q [.s ns, .d (.int at_)] M := w_sourceG hn pre h
end
/-! ### equal steps -/
def g_check_steps : Gs := fun cs M Q E => match cs with
  | [.d (.tuple [.int R, .int S]), .d (.int u), .d (.int e)] => (WhI R S ∧ 0 ≤ u ∧ 1 ≤ e) ∧ retD Q .none
  | _ => False
/-- the index of the first slip, from the index f with the rest g on -/
def fsA (S w f g : Int) : Int := if g < -w then f + (S - g - 1) / (w + S) else f
def fsB (S w g : Int) : Int := if g < -w then g + (S - g - 1) / (w + S) * (w + S) else g
def fsRest (R S w f g : Int) : Int := if fsB S w g ≤ w then fsA S w f g + 1 + (R / 2 - S) / (S - w) + 1 else fsA S w f g + (R / 2 - fsB S w g) / (S - w) + 1
def fsD (R S w p : Int) : PyData := if R / 2 < S - p then .int 0 else if S ≤ w then .none else .int (fsRest R S w 0 (S - p))
def g_first_slip : Gs := fun cs M Q E => match cs with
  | [.d (.tuple [.int R, .int S]), .d (.int u), .d (.int e), .d (.int p)] => (WhI R S ∧ R < 10 ^ 90 ∧ 0 ≤ u ∧ 1 ≤ e ∧ BgI R p ∧ Sm u ∧ Sm e) ∧ retD Q (fsD R S (u * e) p)
  | _ => False
def leD (S u : Int) : PyData := if u = 0 then .none else .int ((S + u - 1) / u)
def g_least_every : Gs := fun cs M Q E => match cs with
  | [.d (.tuple [.int R, .int S]), .d (.int u)] => (WhI R S ∧ 0 ≤ u ∧ u < 10 ^ 100) ∧ retD Q (leD S u)
  | _ => False
theorem leap_bd {S w g : Int} (hS : 1 ≤ S) (hw : 0 ≤ w) (hg : g < -w) : 0 ≤ (S - g - 1) / (w + S) ∧ (S - g - 1) / (w + S) ≤ S - g ∧ -w ≤ g + (S - g - 1) / (w + S) * (w + S) ∧ g + (S - g - 1) / (w + S) * (w + S) ≤ S - 1 := by
  have d1 := Int.emod_add_mul_ediv (S - g - 1) (w + S)
  have d2 := Int.emod_lt_of_pos (S - g - 1) (show 0 < w + S by omega)
  have d3 := Int.emod_nonneg (S - g - 1) (show w + S ≠ 0 by omega)
  have d4 : 0 ≤ (S - g - 1) / (w + S) := Int.ediv_nonneg (by omega) (by omega)
  have d5 : (S - g - 1) / (w + S) ≤ S - g - 1 := Int.ediv_le_self _ (by omega)
  rw [Int.mul_comm] at d1
  omega
end Lw

set_option Elab.async false
set_option linter.all false
set_option maxRecDepth 100000
set_option maxHeartbeats 4000000
namespace Lw
open PySem PySem.Spec PyProof.Rows L2 Kt
/-! ### the third family's draws -/
def StOk (a b c : Int) : Prop := 0 ≤ a ∧ 0 ≤ b ∧ b < 10 ^ 39 ∧ 0 ≤ c ∧ c ≤ 10 ^ 12
def g__law_stock : Gs := fun cs M Q E => match cs, M with
  | [.s ns], [] => ∀ a b, StOk a b 0 → retL Q [.int a, .int b, .int 0]
  | _, _ => False
def g_sdraw : Gs := fun cs M Q E => match cs, M with
  | [.r 0, .d (.int many)], [.live [.int a, .int b, .int c]] => (StOk a b c ∧ 0 < many ∧ many < 10 ^ 90) ∧ ∀ d a' c', 0 ≤ d → d < many → 0 ≤ a' → c ≤ c' → c' ≤ c + 1 → retDR Q [.int a', .int b, .int c'] (.int d)
  | _, _ => False
theorem gs_sdraw {Q : Qx} {E : Xc → Mem → Prop} {many a b c : Int} (h : (StOk a b c ∧ 0 < many ∧ many < 10 ^ 90) ∧ ∀ d a' c', 0 ≤ d → d < many → 0 ≤ a' → c ≤ c' → c' ≤ c + 1 → retDR Q [.int a', .int b, .int c'] (.int d)) : g_sdraw [.r 0, .d (.int many)] [.live [.int a, .int b, .int c]] Q E := h
def g_swheel : Gs := fun cs M Q E => match cs, M with
  | [.r 0, .d (.int top)], [.live [.int a, .int b, .int c]] => ((StOk a b c ∧ c + 4 ≤ 10 ^ 12) ∧ 1 ≤ top ∧ top ≤ 10 ^ 30) ∧ ∀ R S a' c', WhI R S → R ≤ top + 2 → 0 ≤ a' → c ≤ c' → c' ≤ c + 4 → retDR Q [.int a', .int b, .int c'] (.tuple [.int R, .int S])
  | _, _ => False
theorem gs_swheel {Q : Qx} {E : Xc → Mem → Prop} {top a b c : Int} (h : ((StOk a b c ∧ c + 4 ≤ 10 ^ 12) ∧ 1 ≤ top ∧ top ≤ 10 ^ 30) ∧ ∀ R S a' c', WhI R S → R ≤ top + 2 → 0 ≤ a' → c ≤ c' → c' ≤ c + 4 → retDR Q [.int a', .int b, .int c'] (.tuple [.int R, .int S])) : g_swheel [.r 0, .d (.int top)] [.live [.int a, .int b, .int c]] Q E := h
def g_splan : Gs := fun cs M Q E => match cs, M with
  | [.r 0, .d (.int count), .d (.int reach), .d (.int wide)], [.live [.int a, .int b, .int c]] => ((StOk a b c ∧ c + 1000 ≤ 10 ^ 12) ∧ 0 ≤ count ∧ count ≤ 60 ∧ 1 ≤ reach ∧ reach ≤ 10 ^ 28 ∧ 1 ≤ wide ∧ wide ≤ 10 ^ 21) ∧ ∀ ds a' c', PlanOk ds → (∀ x ∈ ds, x.1 ≤ 62 * (reach + 3)) → 0 ≤ a' → c ≤ c' → c' ≤ c + 1000 → retLR Q [.int a', .int b, .int c'] (ds.map itD)
  | _, _ => False
def g_srest : Gs := fun cs M Q E => match cs with
  | [.d (.tuple [.int R, .int S]), .d (.int f), .d (.int p)] => 0 < R ∧ retD Q (.int (restI R f p))
  | _ => False
def SgI (x : PyData) : Prop := ∃ i, x = .int i ∧ (i = 1 ∨ i = -1)
theorem sg_all : ∀ x ∈ [PyData.int 1, PyData.int (-1), PyData.int (-1)], SgI x := fun x hx => by
  simp only [List.mem_cons, List.not_mem_nil, or_false] at hx
  rcases hx with rfl | rfl | rfl
  · exact ⟨1, rfl, .inl rfl⟩
  · exact ⟨-1, rfl, .inr rfl⟩
  · exact ⟨-1, rfl, .inr rfl⟩
section
variable {M : Mem} {Q : Qx} {ρ : Rho} {Wh : Xc → Rho → Mem → Prop} {n kk : Nat} {a b c : Int}
theorem w_stockG {ns : List Int} (hn : 1 = kk) (h : ∀ a b, StOk a b 0 → Q (.r M.length) (M ++ [.live [.int a, .int b, .int 0]])) : gCall kk g__law_stock Wh ρ Q [.s ns] M := by
  refine w_gcall hn rfl ?_
  exact fun a b h1 => w_retL (h a b h1)
theorem w_sdrawG {many : Int} (hn : 2 = kk) (hm : At n M b a c) (pre : StOk a b c ∧ 0 < many ∧ many < 10 ^ 90)
    (h : ∀ d a' c' M', 0 ≤ d → d < many → 0 ≤ a' → c ≤ c' → c' ≤ c + 1 → At n M' b a' c' → Kp n M M' → Q (.d (.int d)) M') : gCallR kk g_sdraw Wh ρ Q [.r n, .d (.int many)] M := by
  refine w_gcallR hn rfl hm (gs_sdraw ⟨pre, fun d a' c' h1 h2 h3 h4 h5 => w_retDR (h d a' c' _ h1 h2 h3 h4 h5 (at_set hm) kp_set)⟩)
theorem w_swheelG {top : Int} (hn : 2 = kk) (hm : At n M b a c) (pre : (StOk a b c ∧ c + 4 ≤ 10 ^ 12) ∧ 1 ≤ top ∧ top ≤ 10 ^ 30)
    (h : ∀ R S a' c' M', WhI R S → R ≤ top + 2 → 0 ≤ a' → c ≤ c' → c' ≤ c + 4 → At n M' b a' c' → Kp n M M' → Q (.d (.tuple [.int R, .int S])) M') : gCallR kk g_swheel Wh ρ Q [.r n, .d (.int top)] M :=
  w_gcallR hn rfl hm (gs_swheel ⟨pre, fun R S a' c' h1 h2 h3 h4 h5 => w_retDR (h R S a' c' _ h1 h2 h3 h4 h5 (at_set hm) kp_set)⟩)
theorem w_splanG {many gap top : Int} (hn : 4 = kk) (hm : At n M b a c) (pre : (StOk a b c ∧ c + 1000 ≤ 10 ^ 12) ∧ 0 ≤ many ∧ many ≤ 60 ∧ 1 ≤ gap ∧ gap ≤ 10 ^ 28 ∧ 1 ≤ top ∧ top ≤ 10 ^ 21)
    (h : ∀ ds a' c' M', PlanOk ds → (∀ x ∈ ds, x.1 ≤ 62 * (gap + 3)) → 0 ≤ a' → c ≤ c' → c' ≤ c + 1000 → At n M' b a' c' → Kp n M M' → M'[M.length]? = some (.live (ds.map itD)) → n < M.length → Q (.r M.length) M') : gCallR kk g_splan Wh ρ Q [.r n, .d (.int many), .d (.int gap), .d (.int top)] M := by
  refine w_gcallR hn rfl hm ?_
  refine ⟨pre, fun ds a' c' h1 h1b h2 h3 h4 => w_retLR ?_⟩
  have e := @new_at (M.set n (.live [.int a', .int b, .int c'])) (.live (ds.map itD))
  rw [List.length_set] at e
  refine h ds a' c' _ h1 h1b h2 h3 h4 (At.app (at_set hm)) ⟨by rw [List.length_append, List.length_set]; omega, fun k hk nk => ?_⟩ e hm.lt
  rw [List.getElem?_append_left (by rw [List.length_set]; exact hk)]
  exact List.getElem?_set_ne (fun z => nk z.symm)
end
theorem asD_live {M : Mem} {k : Nat} {xs : List PyData} (h : M[k]? = some (.live xs)) : asD (.r k) M = some (.list xs, M.set k (.fz xs)) := by
  unfold asD
  dsimp only
  rw [h]
theorem asD_new {M : Mem} {xs : List PyData} : asD (.r M.length) (M ++ [MC.live xs]) = some (.list xs, (M ++ [MC.live xs]).set M.length (MC.fz xs)) := asD_live new_at
theorem keepK {n k : Nat} {M M' : Mem} {z : MC} (kp : Kp n M M') (nk : n ≠ k) (h : M[k]? = some z) : M'[k]? = some z := by
  rw [kp.2 k (List.getElem?_eq_some_iff.mp h).1 (fun e => nk e.symm)]
  exact h
theorem appK {k : Nat} {M L : Mem} {z : MC} (h : M[k]? = some z) : (M ++ L)[k]? = some z := by
  rw [List.getElem?_append_left (List.getElem?_eq_some_iff.mp h).1]
  exact h
theorem newK {n : Nat} {M M' : Mem} {z : MC} {b a c : Int} (hm : At n M b a c) (kp : Kp n (M ++ [z]) M') : M'[M.length]? = some z :=
  keepK kp (by have := hm.lt; omega) new_at
theorem setK {k j : Nat} {M : Mem} {z w : MC} (h : M[j]? = some z) (nk : k ≠ j) : (M.set k w)[j]? = some z := by
  rw [List.getElem?_set_ne nk]
  exact h
theorem asDs_two {M : Mem} {i j : Nat} {xs ys : List PyData} (ha : M[i]? = some (.live xs)) (hb : M[j]? = some (.live ys)) (ne : i ≠ j) : asDs [.r i, .r j] M = some ([.list xs, .list ys], (M.set i (.fz xs)).set j (.fz ys)) := by
  unfold asDs
  rw [asD_live ha]
  dsimp only
  unfold asDs
  rw [asD_live (setK hb ne)]
  rfl
theorem At.set {n k : Nat} {M : Mem} {w : MC} {b a c : Int} (h : At n M b a c) (nk : n ≠ k) : At n (M.set k w) b a c := setK h (fun e => nk e.symm)
end Lw

set_option Elab.async false
set_option linter.all false
set_option maxRecDepth 100000
set_option maxHeartbeats 4000000
namespace Lw
open PySem PySem.Spec PyProof.Rows L2 Kt
/-! ### memory by facts: helpers -/
theorem w_lnG {c : Cell} {M : Mem} {Q : Qx} {xs : List PyData} (e : deref c M = some (.list xs)) (h : Q (.d (.int xs.length)) M) : rLn [c] M Q := by
  unfold rLn
  cases c <;> first | (cases e; done) | (dsimp only; rw [e]; exact h)
theorem w_ixG {c : Cell} {M : Mem} {Q : Qx} {xs : List PyData} {i : Int} (P : PyData → Prop) (e : deref c M = some (.list xs)) (h0 : 0 ≤ i) (h1 : i < xs.length) (hp : ∀ x ∈ xs, P x) (h : ∀ x, P x → Q (.d x) M) : pIx c (.d (.int i)) M Q := by
  cases c with
  | d y =>
    cases e
    obtain ⟨x, e, e2⟩ := atI_nat h0 h1
    exact w_ixl e (h x (hp x (List.mem_of_getElem? e2)))
  | r n => exact w_ixP P e h0 h1 hp h
  | s ns => cases e
  | t _ _ => cases e
  | a _ => cases e
theorem at0 {M : Mem} {b a c : Int} (h : At 0 M b a c) : ∃ M2, M = .live [.int a, .int b, .int c] :: M2 := by
  cases M with
  | nil => cases h
  | cons z M2 =>
    cases h
    exact ⟨M2, rfl⟩
theorem sees_kp {n : Nat} {M M' : Mem} {c : Cell} {x : PyData} (k : Kp n M M') (h : Sees M c x) (hn : c ≠ .r n) : Sees M' c x := by
  rcases h with rfl | ⟨j, xs, rfl, rfl, h⟩
  · exact .d
  · refine .r ?_
    unfold Lz
    rw [k.2 j h.lt fun e => hn (by rw [e])]
    exact h
theorem At.fz {n : Nat} {M M' : Mem} {cs : List Cell} {b a c : Int} (f : Fz M M' cs) (h : At n M b a c) (hn : ∀ z ∈ cs, z ≠ .r n) : At n M' b a c := by
  unfold At
  rw [f.out n hn]
  exact h
theorem nr0 {k : Nat} (h : 0 < k) : Cell.r k ≠ .r 0 := fun e => by
  injection e with e
  omega
theorem nrl {j k : Nat} (h : k < j) : Cell.r j ≠ .r k := fun e => by
  injection e with e
  omega
theorem nrd {x : PyData} {k : Nat} : Cell.d x ≠ .r k := nofun
theorem cs1 {P : Cell → Prop} {c : Cell} (h : P c) : ∀ z ∈ [c], P z := fun z hz => by rw [List.mem_singleton.mp hz]; exact h
theorem csn {P : Cell → Prop} : ∀ z ∈ ([] : List Cell), P z := fun z hz => by cases hz
theorem csc {P : Cell → Prop} {c : Cell} {cs : List Cell} (h : P c) (h2 : ∀ z ∈ cs, P z) : ∀ z ∈ c :: cs, P z := fun z hz => by
  rcases List.mem_cons.mp hz with rfl | hz
  · exact h
  · exact h2 z hz
theorem sees_set {M : Mem} {c : Cell} {x : PyData} {n : Nat} {z : MC} (h : Sees M c x) (hn : c ≠ .r n) : Sees (M.set n z) c x := by
  rcases h with rfl | ⟨j, xs, rfl, rfl, h⟩
  · exact .d
  · exact .r (h.set fun e => hn (by rw [e]))
theorem sees_out {M : Mem} {c : Cell} {x : PyData} (h : Sees M c x) : c ≠ .r M.length := by
  rcases h with rfl | ⟨j, xs, rfl, rfl, h⟩
  · exact nofun
  · intro e
    injection e with e
    have := h.lt
    omega
theorem sees_dS {M : Mem} {c : Cell} {x : PyData} (h : Sees M c x) : derefS c M = some x := by
  rcases h with rfl | ⟨j, xs, rfl, rfl, h⟩
  · rfl
  · have := (Sees.r h).deref
    exact this
theorem At.put {n k : Nat} {M : Mem} {b a c : Int} {z : MC} (h : At n M b a c) (hn : k ≠ n) : At n (M.set k z) b a c := (List.getElem?_set_ne hn).trans h
theorem w_neBB {M : Mem} {Q : Qx} {a b : Bool} (h : Q (.d (.bool (!(a == b)))) M) : pNe (.d (.bool a)) (.d (.bool b)) M Q := by
  refine w_neG rfl rfl ⟨⟨rfl, rfl⟩, ?_⟩
  have e : PyData.eqv (.bool a) (.bool b) = (a == b) := by cases a <;> cases b <;> rfl
  rw [e]
  exact h
theorem w_eqBM {M : Mem} {Q : Qx} {a b : Bool} (h : Q (.d (.bool (a == b))) M) : pEq (.d (.bool a)) (.d (.bool b)) M Q := by
  refine w_eqG rfl rfl ⟨⟨rfl, rfl⟩, ?_⟩
  have e : PyData.eqv (.bool a) (.bool b) = (a == b) := by cases a <;> cases b <;> rfl
  rw [e]
  exact h
end Lw

set_option Elab.async false
set_option linter.all false
set_option maxRecDepth 100000
set_option maxHeartbeats 4000000
namespace Lw
open PySem PySem.Spec PyProof.Rows L2 Kt
/-! ### what checks raise -/
def stepOk : PyData → PyData → Bool
  | .int R, .int S => decide (1 ≤ S) && decide (S ≤ (R - 1) / 2)
  | _, _ => false
/-- what is wrong with a wheel: nothing, its index, or None -/
def whFault : PyData → Option PyData
  | .tuple [a, b] => if geD a 3 = true then (if stepOk a b = true then none else some (.int 1)) else some (.int 0)
  | _ => some .none
theorem whFault_pair {x : PyData} (h : pairD x = false) : whFault x = some .none := by
  unfold pairD at h
  unfold whFault
  split
  · cases h
  · rfl
def x_check_wheel (iw : Addr) : Gs := fun cs M Q E => match cs with
  | [.d x] => (match whFault x with
    | none => retD Q .none
    | some f => ∀ M, E ⟨iw, some ("index", f)⟩ M)
  | _ => False
def g_is_wheel : Gs := fun cs M Q E => match cs with
  | [.d x] => retD Q (.bool (whFault x).isNone)
  | _ => False
theorem w_raiseF {C : Addr} {y : Str} {Wh : Xc → Rho → Mem → Prop} {pe : Px} {D : En} {ρ : Rho} {M : Mem} (h : pe ρ M fun c M1 => raF C y Wh ρ c M1) : pRaiseF C y Wh pe D ρ M := h
theorem w_raN {C : Addr} {y : Str} {Wh : Xc → Rho → Mem → Prop} {ρ : Rho} {M : Mem} (h : Wh ⟨C, some (y, .none)⟩ ρ M) : raF C y Wh ρ (.d .none) M := h
theorem w_raI {C : Addr} {y : Str} {Wh : Xc → Rho → Mem → Prop} {ρ : Rho} {M : Mem} {i : Int} (hi : i.natAbs.log2 < 1920) (h : Wh ⟨C, some (y, .int i)⟩ ρ M) : raF C y Wh ρ (.d (.int i)) M := ⟨hi, h⟩
theorem w_try1 {K : PySem.W.Frag} {c : Value} {Wout : Xc → Rho → Mem → Prop} {pb : (Xc → Rho → Mem → Prop) → Ps} {psu : Ps} {D : En} {ρ : Rho} {M : Mem} (h : pb (whOnly K c Wout psu D) D ρ M) : pTry1 K c Wout pb psu D ρ M := h
theorem geD_inv {x : PyData} {l : Int} (h : geD x l = true) : ∃ i, x = .int i ∧ l ≤ i := by
  unfold geD at h
  split at h
  · exact ⟨_, rfl, of_decide_eq_true h⟩
  · cases h
theorem step_ge {R : Int} {b : PyData} (h : geD b 1 = false) : stepOk (.int R) b = false := by
  cases b with
  | int S =>
    have h2 : decide (1 ≤ S) = false := h
    show (decide (1 ≤ S) && decide (S ≤ (R - 1) / 2)) = false
    rw [h2]
    rfl
  | _ => rfl
theorem wh_none {R S : Int} (h : WhI R S) : whFault (.tuple [.int R, .int S]) = none := by
  unfold whFault
  obtain ⟨h1, h2, h3⟩ := h
  dsimp only
  rw [if_pos (show geD (.int R) 3 = true from decide_eq_true h1), if_pos (show stepOk (.int R) (.int S) = true from by show (decide (1 ≤ S) && decide (S ≤ (R - 1) / 2)) = true; rw [decide_eq_true h2, decide_eq_true h3]; rfl)]
theorem xw_ok {iw : Addr} {R S : Int} {M : Mem} {Q : Qx} {E : Xc → Mem → Prop} (h : WhI R S) (q : retD Q .none) : x_check_wheel iw [.d (.tuple [.int R, .int S])] M Q E := by
  unfold x_check_wheel
  dsimp only
  rw [wh_none h]
  exact q
/-! ### drives: what is wrong with one -/
def itemA (b : Bool) (x : PyData) (l : Int) : Bool := itemD x l && (!b || decide (1 ≤ turnOf x))
def drItems (b : Bool) : List PyData → Int → Nat → Option PyData
  | [], _, _ => none
  | x :: r, l, k => if itemA b x l = true then drItems b r (tickOf x + 1) (k + 1) else some (.int k)
def drFault (b : Bool) : PyData → Option PyData
  | .list xs => if 60 < xs.length then some .none else drItems b xs 0 0
  | _ => some .none
def x_check_drive (ad : Addr) : Gs := fun cs M Q E => match cs with
  | [.d x, .d (.bool b)] => (match drFault b x with
    | none => retD Q .none
    | some f => ∀ M, E ⟨ad, some ("index", f)⟩ M)
  | _ => False
theorem dr_items : ∀ {xs : List PyData} {l : Int} {k : Nat}, driveOk xs l → drItems false xs l k = none
  | [], _, _, _ => rfl
  | x :: r, l, k, h => by
    unfold drItems itemA
    rw [h.1]
    exact dr_items h.2
theorem dr_itemsA : ∀ {xs : List PyData} {l : Int} {k : Nat}, driveOk xs l → (∀ x ∈ xs, 1 ≤ turnOf x) → drItems true xs l k = none
  | [], _, _, _, _ => rfl
  | x :: r, l, k, h, h2 => by
    unfold drItems itemA
    rw [h.1, decide_eq_true (h2 x List.mem_cons_self)]
    exact dr_itemsA h.2 fun y hy => h2 y (List.mem_cons_of_mem _ hy)
theorem dr_none {xs : List PyData} (h : xs.length ≤ 60) (h2 : driveOk xs 0) : drFault false (.list xs) = none := by
  unfold drFault
  dsimp only
  rw [if_neg (by omega)]
  exact dr_items h2
theorem xd_ok {ad : Addr} {xs : List PyData} {M : Mem} {Q : Qx} {E : Xc → Mem → Prop} (h : xs.length ≤ 60 ∧ driveOk xs 0) (q : retD Q .none) : x_check_drive ad [.d (.list xs), .d (.bool false)] M Q E := by
  unfold x_check_drive
  dsimp only
  rw [dr_none h.1 h.2]
  exact q
theorem xd_okA {ad : Addr} {xs : List PyData} {M : Mem} {Q : Qx} {E : Xc → Mem → Prop} (h : xs.length ≤ 60 ∧ driveOk xs 0 ∧ ∀ x ∈ xs, 1 ≤ turnOf x) (q : retD Q .none) : x_check_drive ad [.d (.list xs), .d (.bool true)] M Q E := by
  unfold x_check_drive drFault
  dsimp only
  rw [if_neg (by omega), dr_itemsA h.2.1 h.2.2]
  exact q
def g_is_drive : Gs := fun cs M Q E => match cs with
  | [.d x] => retD Q (.bool (drFault false x).isNone)
  | _ => False
/-! ### the field of a drive -/
def turnsI (ds : List Item) : Int := (ds.map (·.2)).sum
def g_field_at : Gs := fun cs M Q E => match cs, M with
  | [.d (.tuple [.int R, .int S]), .d (.list xs), .d (.int t)], [] => ∃ ds : List Item, xs = ds.map itD ∧ ((WhI R S ∧ R < 10 ^ 100) ∧ ds.length ≤ 60 ∧ Asc ds 0 ∧ 0 ≤ t ∧ Sm (turnsI (pastI t ds))) ∧ retD Q (.int (S * turnsI (pastI t ds)))
  | _, _ => False
def g_total_turn : Gs := fun cs M Q E => match cs, M with
  | [.d (.list xs)], [] => ∃ ds : List Item, xs = ds.map itD ∧ (ds.length ≤ 60 ∧ Asc ds 0) ∧ retD Q (.int (turnsI ds))
  | _, _ => False
end Lw

set_option Elab.async false
set_option linter.all false
set_option maxRecDepth 100000
set_option maxHeartbeats 4000000
namespace Lw
open PySem PySem.Spec PyProof.Rows L2 Kt
/-! ### the order of rows -/
theorem rowLe_eq (p q : RowI) : rowLe p q = decide ((p.1 :: p.2) ≤ (q.1 :: q.2)) := by
  show (!PySem.W.dataLt (rowD q) (rowD p)) = _
  have e : PySem.W.dataLt (rowD q) (rowD p) = decide ((q.1 :: q.2) < (p.1 :: p.2)) := by
    rw [← PySem.W.dataLt_ints]
    unfold rowD
    rw [PySem.W.dataLt_tuple]
    rfl
  rw [e]
  exact decide_not.symm
theorem rowLe_fst {p q : RowI} (h : rowLe p q = true) : p.1 ≤ q.1 := by
  rw [rowLe_eq] at h
  have h' : ¬ (q.1 :: q.2) < (p.1 :: p.2) := of_decide_eq_true h
  rw [List.cons_lt_cons_iff] at h'
  omega
theorem rowLe_trans (a b c : RowI) (h : rowLe a b = true) (h' : rowLe b c = true) : rowLe a c = true := by
  rw [rowLe_eq] at *
  exact decide_eq_true (List.le_trans (of_decide_eq_true h) (of_decide_eq_true h'))
theorem rowLe_total (a b : RowI) : (rowLe a b || rowLe b a) = true := by
  rw [rowLe_eq, rowLe_eq, Bool.or_eq_true, decide_eq_true_eq, decide_eq_true_eq]
  exact List.le_total _ _
theorem sort_map {α : Type} (enc : α → RowI) (dec : RowI → α) (h : ∀ x, dec (enc x) = x) (xs : List α) : ∃ L : List α, (xs.map enc).mergeSort rowLe = L.map enc ∧ L.Perm xs ∧ L.Pairwise fun x y => rowLe (enc x) (enc y) = true := by
  have pm := List.mergeSort_perm (xs.map enc) rowLe
  have pw := List.pairwise_mergeSort rowLe_trans rowLe_total (xs.map enc)
  generalize (xs.map enc).mergeSort rowLe = m at *
  have e1 : (m.map dec).map enc = m := by
    rw [List.map_map]
    have : ∀ r ∈ m, (enc ∘ dec) r = r := fun r hr => by
      obtain ⟨x, _, rfl⟩ := List.mem_map.mp (pm.mem_iff.mp hr)
      show enc (dec (enc x)) = enc x
      rw [h]
    rw [List.map_congr_left this, List.map_id']
  refine ⟨m.map dec, e1.symm, ?_, ?_⟩
  · have := pm.map dec
    rw [List.map_map] at this
    have e2 : xs.map (dec ∘ enc) = xs := by
      rw [List.map_congr_left (fun x _ => show (dec ∘ enc) x = id x from h x), List.map_id]
    rw [e2] at this
    exact this
  · rw [← e1, List.pairwise_map] at pw
    exact pw
/-! ### stretches -/
def memS (st : List Item) (u : Int) : Prop := ∃ s ∈ st, s.1 ≤ u ∧ u ≤ s.2
structure Cano (st : List Item) : Prop where
  ne : ∀ s ∈ st, s.1 ≤ s.2
  gap : st.Pairwise fun s t => s.2 + 1 < t.1
theorem memS_cons {a : Item} {r : List Item} {u : Int} : memS (a :: r) u ↔ (a.1 ≤ u ∧ u ≤ a.2) ∨ memS r u := by
  unfold memS
  constructor
  · rintro ⟨s, hs, h⟩
    rcases List.mem_cons.mp hs with rfl | hs
    · exact .inl h
    · exact .inr ⟨s, hs, h⟩
  · rintro (h | ⟨s, hs, h⟩)
    · exact ⟨a, List.mem_cons_self, h⟩
    · exact ⟨s, List.mem_cons_of_mem _ hs, h⟩
theorem memS_nil {u : Int} : ¬ memS [] u := fun ⟨_, h, _⟩ => by cases h
theorem memS_app {x y : List Item} {u : Int} : memS (x ++ y) u ↔ memS x u ∨ memS y u := by
  unfold memS
  constructor
  · rintro ⟨s, hs, h⟩
    rcases List.mem_append.mp hs with hs | hs
    · exact .inl ⟨s, hs, h⟩
    · exact .inr ⟨s, hs, h⟩
  · rintro (⟨s, hs, h⟩ | ⟨s, hs, h⟩)
    · exact ⟨s, List.mem_append_left _ hs, h⟩
    · exact ⟨s, List.mem_append_right _ hs, h⟩
theorem memS_one {a : Item} {u : Int} : memS [a] u ↔ a.1 ≤ u ∧ u ≤ a.2 := by
  rw [memS_cons]
  exact ⟨fun h => h.resolve_right memS_nil, .inl⟩
theorem memS_perm {x y : List Item} (p : x.Perm y) {u : Int} : memS x u ↔ memS y u :=
  ⟨fun ⟨s, hs, h⟩ => ⟨s, p.mem_iff.mp hs, h⟩, fun ⟨s, hs, h⟩ => ⟨s, p.mem_iff.mpr hs, h⟩⟩
theorem Cano.tail {a : Item} {r : List Item} (h : Cano (a :: r)) : Cano r := ⟨fun s hs => h.ne s (List.mem_cons_of_mem _ hs), (List.pairwise_cons.mp h.gap).2⟩
theorem Cano.nil : Cano [] := ⟨(fun _ h => by cases h), List.Pairwise.nil⟩
theorem Cano.above {a : Item} {r : List Item} (h : Cano (a :: r)) {u : Int} (hu : memS r u) : a.2 + 1 < u := by
  obtain ⟨s, hs, h1, _⟩ := hu
  have := (List.pairwise_cons.mp h.gap).1 s hs
  omega
/-- one list of stretches for a set -/
theorem Cano.uniq : ∀ {x y : List Item}, Cano x → Cano y → (∀ u, memS x u ↔ memS y u) → x = y
  | [], [], _, _, _ => rfl
  | [], b :: r, _, hy, e => absurd ((e b.1).mpr (memS_cons.mpr (.inl ⟨Int.le_refl _, hy.ne b List.mem_cons_self⟩))) memS_nil
  | a :: r, [], hx, _, e => absurd ((e a.1).mp (memS_cons.mpr (.inl ⟨Int.le_refl _, hx.ne a List.mem_cons_self⟩))) memS_nil
  | a :: r, b :: t, hx, hy, e => by
    have na := hx.ne a List.mem_cons_self
    have nb := hy.ne b List.mem_cons_self
    have low : ∀ {a : Item} {r : List Item}, Cano (a :: r) → ∀ {u}, memS (a :: r) u → a.1 ≤ u := fun {a r} h {u} hu => by
      rcases memS_cons.mp hu with h1 | h1
      · exact h1.1
      · have := h.above h1
        have := h.ne a List.mem_cons_self
        omega
    have l1 : a.1 = b.1 := by
      have i1 := low hy ((e a.1).mp (memS_cons.mpr (.inl ⟨Int.le_refl _, na⟩)))
      have i2 := low hx ((e b.1).mpr (memS_cons.mpr (.inl ⟨Int.le_refl _, nb⟩)))
      omega
    have out : ∀ {a : Item} {r : List Item}, Cano (a :: r) → ¬ memS (a :: r) (a.2 + 1) := fun {a r} h hu => by
      rcases memS_cons.mp hu with h1 | h1
      · omega
      · have := h.above h1
        omega
    have l2 : a.2 = b.2 := by
      rcases Int.lt_trichotomy a.2 b.2 with h | h | h
      · exact absurd ((e (a.2 + 1)).mpr (memS_cons.mpr (.inl ⟨by omega, by omega⟩))) (out hx)
      · exact h
      · exact absurd ((e (b.2 + 1)).mp (memS_cons.mpr (.inl ⟨by omega, by omega⟩))) (out hy)
    have ab : a = b := Prod.ext l1 l2
    subst ab
    have := Cano.uniq hx.tail hy.tail fun u => by
      constructor
      · intro h
        have := hx.above h
        exact (memS_cons.mp ((e u).mp (memS_cons.mpr (.inr h)))).resolve_left (by omega)
      · intro h
        have := hy.above h
        exact (memS_cons.mp ((e u).mpr (memS_cons.mpr (.inr h)))).resolve_left (by omega)
    rw [this]
def itR (x : Item) : RowI := (x.1, [x.2])
def itU (r : RowI) : Item := (r.1, r.2.headD 0)
theorem itR_D (xs : List Item) : xs.map itD = (xs.map itR).map rowD := by
  rw [List.map_map]
  rfl
theorem sort_it (xs : List Item) : ∃ L : List Item, ((xs.map itR).mergeSort rowLe).map rowD = L.map itD ∧ L.Perm xs ∧ L.Pairwise fun x y => x.1 ≤ y.1 := by
  obtain ⟨L, e, p, w⟩ := sort_map itR itU (fun x => rfl) xs
  exact ⟨L, by rw [e, itR_D], p, w.imp fun h => rowLe_fst h⟩
def g_as_stretches : Gs := fun cs M Q E => match cs, M with
  | [.d (.list xs)], [] => ∃ sp : List Item, xs = sp.map itD ∧ ((∀ s ∈ sp, s.1 ≤ s.2) ∧ sp.length ≤ 4000000) ∧ ∀ st : List Item, Cano st → (∀ u, memS st u ↔ memS sp u) → st.length ≤ sp.length → retL Q (st.map itD)
  | _, _ => False
/-- the next of ascending spans is put to the stretches -/
theorem cano_next {init : List Item} {l x : Item} (h : Cano (init ++ [l])) (hx : x.1 ≤ x.2) (hl : l.1 ≤ x.1) :
    (x.1 ≤ l.2 + 1 → Cano (init ++ [(l.1, if x.2 > l.2 then x.2 else l.2)]) ∧ ∀ u, memS (init ++ [(l.1, if x.2 > l.2 then x.2 else l.2)]) u ↔ memS (init ++ [l]) u ∨ (x.1 ≤ u ∧ u ≤ x.2)) ∧
    (¬ x.1 ≤ l.2 + 1 → Cano (init ++ [l] ++ [x])) := by
  have nl := h.ne l (List.mem_append_right _ List.mem_cons_self)
  obtain ⟨g1, g2, g3⟩ := List.pairwise_append.mp h.gap
  have gl : ∀ s ∈ init, s.2 + 1 < l.1 := fun s hs => g3 s hs l List.mem_cons_self
  refine ⟨fun hle => ⟨⟨fun s hs => ?_, ?_⟩, fun u => ?_⟩, fun hgt => ⟨fun s hs => ?_, ?_⟩⟩
  · rcases List.mem_append.mp hs with hs | hs
    · exact h.ne s (List.mem_append_left _ hs)
    · rw [List.mem_singleton.mp hs]
      dsimp only
      split <;> omega
  · refine List.pairwise_append.mpr ⟨g1, List.pairwise_singleton _ _, fun s hs t ht => ?_⟩
    rw [List.mem_singleton.mp ht]
    exact gl s hs
  · rw [memS_app, memS_app, memS_one, memS_one]
    dsimp only
    constructor
    · rintro (h | h)
      · exact .inl (.inl h)
      · by_cases hu : u ≤ l.2
        · exact .inl (.inr ⟨h.1, hu⟩)
        · refine .inr ⟨by omega, ?_⟩
          have := h.2
          split at this <;> omega
    · rintro ((h | h) | h)
      · exact .inl h
      · exact .inr ⟨h.1, by split <;> omega⟩
      · exact .inr ⟨by omega, by split <;> omega⟩
  · rcases List.mem_append.mp hs with hs | hs
    · exact h.ne s hs
    · rw [List.mem_singleton.mp hs]
      exact hx
  · refine List.pairwise_append.mpr ⟨h.gap, List.pairwise_singleton _ _, fun s hs t ht => ?_⟩
    rw [List.mem_singleton.mp ht]
    rcases List.mem_append.mp hs with hs | hs
    · have := gl s hs
      omega
    · rw [List.mem_singleton.mp hs]
      omega
theorem small_lt4 {n : Nat} (h : n ≤ 4000000) : n < sizeLine := Nat.lt_of_le_of_lt h (by decide)
theorem small_le4 {n : Nat} (h : n ≤ 8000000) : n ≤ sizeLine := Nat.le_trans h (by decide)
theorem runC_fmapB {g : Pg} {pt : Pt} {pe : Px} {ρ : Rho} {Q : Qx} {xs : List PyData} {M : Mem} {f : PyData → Bool} {h : PyData → PyData} (hlen : xs.length ≤ 4000000) (hs : ∀ x ∈ xs, ∀ (acc : List PyData) (N : List PyData → Mem → Prop), acc.length < sizeLine → (f x = true → N (acc ++ [h x]) M) → (f x = false → N acc M) →
    g (.d x) ρ M fun ρ2 M2 => pt ρ2 M2 fun b M3 => (b = true → pe ρ2 M3 fun c M4 => match asD c M4 with
      | some (d, M5) => acc.length < sizeLine ∧ N (acc ++ [d]) M5
      | none => False) ∧ (b = false → N acc M3)) (hd : Q (.r M.length) (M ++ [.live ((xs.filter f).map h)])) : runC g pt pe ρ Q xs [] M := by
  refine runC_invM (fun i acc => acc = ((xs.take i).filter f).map h) rfl (fun i x acc N hx hI hN => ?_) fun acc hI => ?_
  · subst hI
    have hl : (((xs.take i).filter f).map h).length < sizeLine := small_lt4 (by
      rw [List.length_map]
      have := List.length_filter_le f (xs.take i)
      rw [List.length_take] at this
      omega)
    refine hs x (List.mem_of_getElem? hx) _ N hl (fun e => hN _ ?_) (fun e => hN _ ?_)
    · rw [take_succ_get hx, List.filter_append, List.map_append, List.filter_cons, if_pos e]
      rfl
    · rw [take_succ_get hx, List.filter_append, List.filter_cons, if_neg (by rw [e]; exact nofun)]
      show _ = ((xs.take i).filter f ++ []).map h
      rw [List.append_nil]
  · rw [List.take_length] at hI
    subst hI
    exact hd
end Lw

set_option Elab.async false
set_option linter.all false
set_option maxRecDepth 100000
set_option maxHeartbeats 4000000
namespace Lw
open PySem PySem.Spec PyProof.Rows L2 Kt
/-! ### pieces of pulls -/
structure Pc where
  a : Int
  b : Int
  p : Int
  s : Int
def pcR (x : Pc) : RowI := (x.a, [x.b, x.p, x.s])
def pcU (r : RowI) : Pc := ⟨r.1, r.2.headD 0, (r.2.drop 1).headD 0, (r.2.drop 2).headD 0⟩
def pcD (x : Pc) : PyData := .tuple [.int x.a, .int x.b, .int x.p, .int x.s]
theorem pcR_D (xs : List Pc) : xs.map pcD = (xs.map pcR).map rowD := by
  rw [List.map_map]
  rfl
theorem sort_pc (xs : List Pc) : ∃ L : List Pc, ((xs.map pcR).mergeSort rowLe).map rowD = L.map pcD ∧ L.Perm xs := by
  obtain ⟨L, e, p, w⟩ := sort_map pcR pcU (fun x => rfl) xs
  exact ⟨L, by rw [e, pcR_D], p⟩
def memP (x : Pc) (u : Int) : Prop := x.a ≤ u ∧ u ≤ x.b
def cutI (x : Pc) (f d : Int) : Pc :=
  if 0 < f then { x with b := if d / f < x.b then d / f else x.b } else if f < 0 then { x with a := if -(d / -f) > x.a then -(d / -f) else x.a } else if d < 0 then { x with b := x.a - 1 } else x
theorem cut_mem {x : Pc} {f d u : Int} : memP (cutI x f d) u ↔ memP x u ∧ u * f ≤ d := by
  unfold cutI memP
  split
  · rename_i hf
    have e : u ≤ d / f ↔ u * f ≤ d := Int.le_ediv_iff_mul_le hf
    dsimp only
    rw [← e]
    split <;> omega
  · split
    · rename_i _ hf
      have e : -u ≤ d / -f ↔ -u * -f ≤ d := Int.le_ediv_iff_mul_le (show 0 < -f by omega)
      rw [Int.neg_mul_neg] at e
      dsimp only
      rw [← e]
      split <;> omega
    · have hf : f = 0 := by omega
      subst hf
      rw [Int.mul_zero]
      split
      · dsimp only
        omega
      · omega
theorem cut_ps {x : Pc} {f d : Int} : (cutI x f d).p = x.p ∧ (cutI x f d).s = x.s := by
  unfold cutI
  split
  · exact ⟨rfl, rfl⟩
  · split
    · exact ⟨rfl, rfl⟩
    · split <;> exact ⟨rfl, rfl⟩
def FcOk (f : Int) : Prop := -(10 ^ 100) < f ∧ f < 10 ^ 100
def g_cut : Gs := fun cs M Q E => match cs, M with
  | [.d d, .d (.int f), .d (.int b)], [] => ∃ x : Pc, d = pcD x ∧ FcOk f ∧ retD Q (pcD (cutI x f b))
  | _, _ => False
def movedP (x : Pc) (F t : Int) : List Pc :=
  let h := cutI x (x.s + t) (F - x.p - 1)
  let y := cutI x (t - x.s) (-(F - x.p) - 1)
  let z := cutI (cutI x (-x.s - t) (-(F - x.p))) (x.s - t) (F - x.p)
  [⟨h.a, h.b, x.p, x.s + t⟩, ⟨z.a, z.b, F, 0⟩, ⟨y.a, y.b, x.p, x.s - t⟩]
def g_moved_pieces : Gs := fun cs M Q E => match cs, M with
  | [.d d, .d (.int F), .d (.int t)], [] => ∃ x : Pc, d = pcD x ∧ (FcOk (2 * x.s) ∧ FcOk (2 * t)) ∧ retL Q ((movedP x F t).map pcD)
  | _, _ => False
def keptP (R : Int) (x : Pc) (F : Int) : Pc := cutI (cutI x x.s (F - x.p + (R - 1) / 2)) (-x.s) (R / 2 - (F - x.p))
def g_kept_piece : Gs := fun cs M Q E => match cs, M with
  | [.d (.tuple [.int R, .int S]), .d d, .d (.int F)], [] => ∃ x : Pc, d = pcD x ∧ FcOk (2 * x.s) ∧ retD Q (pcD (keptP R x F))
  | _, _ => False
/-- the same pulls at the same places -/
def SameP (xs ys : List Pc) : Prop := ∀ u p s, (∃ x ∈ xs, memP x u ∧ x.p = p ∧ x.s = s) ↔ ∃ y ∈ ys, memP y u ∧ y.p = p ∧ y.s = s
theorem SameP.perm {xs ys zs : List Pc} (h : SameP xs ys) (p : ys.Perm zs) : SameP xs zs := fun u a s => (h u a s).trans ⟨fun ⟨y, hy, k⟩ => ⟨y, p.mem_iff.mp hy, k⟩, fun ⟨y, hy, k⟩ => ⟨y, p.mem_iff.mpr hy, k⟩⟩
def g_without_empty : Gs := fun cs M Q E => match cs, M with
  | [.d (.list xs)], [] => ∃ ps : List Pc, xs = ps.map pcD ∧ ps.length ≤ 4000000 ∧ ∀ out : List Pc, SameP out ps → (∀ x ∈ out, x.a ≤ x.b) → out.length ≤ ps.length → retL Q (out.map pcD)
  | _, _ => False
/-! ### where a wheel is, and whether it was kept -/
def wayI (h F w : Int) : Int := if h ≤ F then (if h + w < F then h + w else F) else (if h - w > F then h - w else F)
def keptI (R S u : Int) : List Item → Int → Int → Int → Bool
  | [], _, _, _ => true
  | (t, n) :: r, now, F, h => decide (F + n * S - wayI h F (u * (t - now)) ≤ R / 2) && decide (wayI h F (u * (t - now)) - (F + n * S) ≤ (R - 1) / 2) && keptI R S u r t (F + n * S) (wayI h F (u * (t - now)))
/-- the pieces tell for each pull to most whether it was kept so far, and the place -/
structure PcOk (most : Int) (ok : Int → Prop) (pos : Int → Int) (ps : List Pc) : Prop where
  only : ∀ x ∈ ps, ∀ u, memP x u → 0 ≤ u ∧ u ≤ most ∧ ok u ∧ pos u = x.p + x.s * u
  all : ∀ u, 0 ≤ u → u ≤ most → ok u → ∃ x ∈ ps, memP x u
theorem PcOk.same {most : Int} {ok : Int → Prop} {pos : Int → Int} {ps qs : List Pc} (h : PcOk most ok pos ps) (e : SameP qs ps) : PcOk most ok pos qs := by
  refine ⟨fun x hx u hu => ?_, fun u h1 h2 h3 => ?_⟩
  · obtain ⟨y, hy, m, e1, e2⟩ := (e u x.p x.s).mp ⟨x, hx, hu, rfl, rfl⟩
    rw [← e1, ← e2]
    exact h.only y hy u m
  · obtain ⟨y, hy, m⟩ := h.all u h1 h2 h3
    obtain ⟨x, hx, m2, _, _⟩ := (e u y.p y.s).mpr ⟨y, hy, m, rfl, rfl⟩
    exact ⟨x, hx, m2⟩
theorem moved_mem {x : Pc} {F t u : Int} (hu : 0 ≤ u) (ht : 0 ≤ t) : (∃ y ∈ movedP x F t, memP y u) ↔ memP x u := by
  constructor
  · rintro ⟨y, hy, h⟩
    unfold movedP at hy
    simp only [List.mem_cons, List.not_mem_nil, or_false] at hy
    rcases hy with rfl | rfl | rfl
    · exact (cut_mem.mp (show memP (cutI x (x.s + t) (F - x.p - 1)) u from h)).1
    · exact (cut_mem.mp (cut_mem.mp (show memP (cutI (cutI x (-x.s - t) (-(F - x.p))) (x.s - t) (F - x.p)) u from h)).1).1
    · exact (cut_mem.mp (show memP (cutI x (t - x.s) (-(F - x.p) - 1)) u from h)).1
  · intro h
    have e1 : u * (x.s + t) = u * x.s + u * t := Int.mul_add _ _ _
    have e2 : u * (t - x.s) = u * t - u * x.s := Int.mul_sub _ _ _
    have e3 : u * (-x.s - t) = -(u * x.s) - u * t := by rw [Int.mul_sub, Int.mul_neg]
    have e4 : u * (x.s - t) = u * x.s - u * t := Int.mul_sub _ _ _
    by_cases c1 : u * x.s + u * t ≤ F - x.p - 1
    · exact ⟨_, List.mem_cons_self, show memP (cutI x (x.s + t) (F - x.p - 1)) u from cut_mem.mpr ⟨h, by omega⟩⟩
    · by_cases c2 : u * t - u * x.s ≤ -(F - x.p) - 1
      · exact ⟨_, List.mem_cons_of_mem _ (List.mem_cons_of_mem _ List.mem_cons_self), show memP (cutI x (t - x.s) (-(F - x.p) - 1)) u from cut_mem.mpr ⟨h, by omega⟩⟩
      · exact ⟨_, List.mem_cons_of_mem _ List.mem_cons_self, show memP (cutI (cutI x (-x.s - t) (-(F - x.p))) (x.s - t) (F - x.p)) u from cut_mem.mpr ⟨cut_mem.mpr ⟨h, by omega⟩, by omega⟩⟩
theorem moved_pos {x : Pc} {F t u : Int} (hu : 0 ≤ u) (ht : 0 ≤ t) {y : Pc} (hy : y ∈ movedP x F t) (h : memP y u) : wayI (x.p + x.s * u) F (u * t) = y.p + y.s * u := by
  have w0 : 0 ≤ u * t := Int.mul_nonneg hu ht
  have e1 : u * (x.s + t) = u * x.s + u * t := Int.mul_add _ _ _
  have e2 : u * (t - x.s) = u * t - u * x.s := Int.mul_sub _ _ _
  have e3 : u * (-x.s - t) = -(u * x.s) - u * t := by rw [Int.mul_sub, Int.mul_neg]
  have e4 : u * (x.s - t) = u * x.s - u * t := Int.mul_sub _ _ _
  have e5 : (x.s + t) * u = u * x.s + u * t := by rw [Int.mul_comm, e1]
  have e6 : (x.s - t) * u = u * x.s - u * t := by rw [Int.mul_comm, e4]
  unfold movedP at hy
  simp only [List.mem_cons, List.not_mem_nil, or_false] at hy
  unfold wayI
  rw [Int.mul_comm x.s u]
  rcases hy with rfl | rfl | rfl
  · have := (cut_mem.mp (show memP (cutI x (x.s + t) (F - x.p - 1)) u from h)).2
    dsimp only
    rw [e5]
    rw [if_pos (by omega), if_pos (by omega)]
    omega
  · have c1 := cut_mem.mp (show memP (cutI (cutI x (-x.s - t) (-(F - x.p))) (x.s - t) (F - x.p)) u from h)
    have c2 := (cut_mem.mp c1.1).2
    have c1 := c1.2
    dsimp only
    rw [Int.zero_mul]
    split
    · rw [if_neg (by omega)]
      omega
    · rw [if_neg (by omega)]
      omega
  · have := (cut_mem.mp (show memP (cutI x (t - x.s) (-(F - x.p) - 1)) u from h)).2
    dsimp only
    rw [e6]
    rw [if_neg (by omega), if_pos (by omega)]
    omega
theorem PcOk.moved {most : Int} {ok : Int → Prop} {pos : Int → Int} {ps : List Pc} (h : PcOk most ok pos ps) {F t : Int} (ht : 0 ≤ t) : PcOk most ok (fun u => wayI (pos u) F (u * t)) (ps.flatMap fun x => movedP x F t) := by
  refine ⟨fun y hy u hu => ?_, fun u h1 h2 h3 => ?_⟩
  · obtain ⟨x, hx, hy⟩ := List.mem_flatMap.mp hy
    have hu0 : memP x u := by
      unfold movedP at hy
      simp only [List.mem_cons, List.not_mem_nil, or_false] at hy
      rcases hy with rfl | rfl | rfl
      · exact (cut_mem.mp (show memP (cutI x (x.s + t) (F - x.p - 1)) u from hu)).1
      · exact (cut_mem.mp (cut_mem.mp (show memP (cutI (cutI x (-x.s - t) (-(F - x.p))) (x.s - t) (F - x.p)) u from hu)).1).1
      · exact (cut_mem.mp (show memP (cutI x (t - x.s) (-(F - x.p) - 1)) u from hu)).1
    obtain ⟨k1, k2, k3, k4⟩ := h.only x hx u hu0
    refine ⟨k1, k2, k3, ?_⟩
    rw [k4]
    exact moved_pos k1 ht hy hu
  · obtain ⟨x, hx, m⟩ := h.all u h1 h2 h3
    obtain ⟨y, hy, m2⟩ := (moved_mem (x := x) (F := F) (t := t) h1 ht).mpr m
    exact ⟨y, List.mem_flatMap.mpr ⟨x, hx, hy⟩, m2⟩
theorem PcOk.kept {most R : Int} {ok : Int → Prop} {pos : Int → Int} {ps : List Pc} (h : PcOk most ok pos ps) {F : Int} : PcOk most (fun u => ok u ∧ F - pos u ≤ R / 2 ∧ pos u - F ≤ (R - 1) / 2) pos (ps.map fun x => keptP R x F) := by
  have key : ∀ x u, memP (keptP R x F) u ↔ memP x u ∧ x.p + x.s * u - F ≤ (R - 1) / 2 ∧ F - (x.p + x.s * u) ≤ R / 2 := fun x u => by
    unfold keptP
    rw [cut_mem, cut_mem, Int.mul_neg, Int.mul_comm u x.s]
    constructor
    · rintro ⟨⟨a, b⟩, c⟩
      exact ⟨a, by omega, by omega⟩
    · rintro ⟨a, b, c⟩
      exact ⟨⟨a, by omega⟩, by omega⟩
  have kp : ∀ x, (keptP R x F).p = x.p ∧ (keptP R x F).s = x.s := fun x => by
    unfold keptP
    have := @cut_ps (cutI x x.s (F - x.p + (R - 1) / 2)) (-x.s) (R / 2 - (F - x.p))
    have := @cut_ps x x.s (F - x.p + (R - 1) / 2)
    constructor <;> simp_all
  refine ⟨fun y hy u hu => ?_, fun u h1 h2 h3 => ?_⟩
  · obtain ⟨x, hx, rfl⟩ := List.mem_map.mp hy
    obtain ⟨m, k1, k2⟩ := (key x u).mp hu
    obtain ⟨j1, j2, j3, j4⟩ := h.only x hx u m
    rw [(kp x).1, (kp x).2]
    exact ⟨j1, j2, ⟨j3, by omega, by omega⟩, j4⟩
  · obtain ⟨k1, k2, k3⟩ := h3
    obtain ⟨x, hx, m⟩ := h.all u h1 h2 k1
    obtain ⟨_, _, _, j4⟩ := h.only x hx u m
    exact ⟨_, List.mem_map.mpr ⟨x, hx, rfl⟩, (key x u).mpr ⟨m, by omega, by omega⟩⟩
theorem kept_step {R S u t n now F h : Int} {r : List Item} : keptI R S u ((t, n) :: r) now F h = true ↔ (F + n * S - wayI h F (u * (t - now)) ≤ R / 2 ∧ wayI h F (u * (t - now)) - (F + n * S) ≤ (R - 1) / 2) ∧ keptI R S u r t (F + n * S) (wayI h F (u * (t - now))) = true := by
  show (decide _ && decide _ && keptI R S u r t _ _) = true ↔ _
  rw [Bool.and_eq_true, Bool.and_eq_true, decide_eq_true_eq, decide_eq_true_eq]
/-- the state of the program's loop -/
structure KpOk (R S most : Int) (ds : List Item) (p : Int) (i : Nat) (ps : List Pc) (now F : Int) : Prop where
  ex : ∃ ok pos, PcOk most ok pos ps ∧ ∀ u, 0 ≤ u → ((ok u ∧ keptI R S u (ds.drop i) now F (pos u) = true) ↔ keptI R S u ds 0 0 p = true)
  sl : ∀ x ∈ ps, -now ≤ x.s ∧ x.s ≤ now
  ne : ∀ x ∈ ps, x.a ≤ x.b
  len : ps.length ≤ 3 ^ i
theorem KpOk.start {R S most p : Int} {ds : List Item} (h : 0 ≤ most) : KpOk R S most ds p 0 [⟨0, most, p, 0⟩] 0 0 := by
  refine ⟨⟨fun _ => True, fun _ => p, ⟨fun x hx u hu => ?_, fun u h1 h2 _ => ⟨_, List.mem_cons_self, h1, h2⟩⟩, fun u _ => by rw [List.drop_zero]; exact ⟨fun h => h.2, fun h => ⟨trivial, h⟩⟩⟩, fun x hx => ?_, fun x hx => ?_, by simp⟩
  · rw [List.mem_singleton.mp hx] at hu ⊢
    exact ⟨hu.1, hu.2, trivial, by dsimp only; rw [Int.zero_mul, Int.add_zero]⟩
  · rw [List.mem_singleton.mp hx]
    exact ⟨Int.le_refl 0, Int.le_refl 0⟩
  · rw [List.mem_singleton.mp hx]
    exact h
theorem same_sl {ps qs : List Pc} (e : SameP qs ps) (ne : ∀ x ∈ qs, x.a ≤ x.b) {l m : Int} (h : ∀ x ∈ ps, l ≤ x.s ∧ x.s ≤ m) : ∀ x ∈ qs, l ≤ x.s ∧ x.s ≤ m := fun x hx => by
  obtain ⟨y, hy, _, _, e2⟩ := (e x.a x.p x.s).mp ⟨x, hx, ⟨Int.le_refl _, ne x hx⟩, rfl, rfl⟩
  rw [← e2]
  exact h y hy
theorem moved_sl {x y : Pc} {F t l : Int} (ht : 0 ≤ t) (h : -l ≤ x.s ∧ x.s ≤ l) (hy : y ∈ movedP x F t) : -(l + t) ≤ y.s ∧ y.s ≤ l + t := by
  unfold movedP at hy
  simp only [List.mem_cons, List.not_mem_nil, or_false] at hy
  rcases hy with rfl | rfl | rfl <;> dsimp only <;> omega
theorem moved_len {F t : Int} : ∀ ps : List Pc, (ps.flatMap fun x => movedP x F t).length = 3 * ps.length
  | [] => rfl
  | x :: r => by
    rw [List.flatMap_cons, List.length_append, moved_len r, List.length_cons]
    show 3 + _ = _
    omega
theorem kept_s {R F : Int} {x : Pc} : (keptP R x F).s = x.s := by
  unfold keptP
  rw [(cut_ps (x := cutI x x.s _)).2, cut_ps.2]
theorem KpOk.step {R S most p now F t n : Int} {ds rest : List Item} {i : Nat} {ps p1 p2 : List Pc} (h : KpOk R S most ds p i ps now F) (hd : ds.drop i = (t, n) :: rest) (hr : ds.drop (i + 1) = rest) (ht : now ≤ t)
    (s1 : SameP p1 (ps.flatMap fun x => movedP x F (t - now))) (n1 : ∀ x ∈ p1, x.a ≤ x.b) (l1 : p1.length ≤ (ps.flatMap fun x => movedP x F (t - now)).length)
    (s2 : SameP p2 (p1.map fun x => keptP R x (F + n * S))) (n2 : ∀ x ∈ p2, x.a ≤ x.b) (l2 : p2.length ≤ (p1.map fun x => keptP R x (F + n * S)).length) : KpOk R S most ds p (i + 1) p2 t (F + n * S) := by
  obtain ⟨ok, pos, hk, he⟩ := h.ex
  refine ⟨⟨_, _, (((hk.moved (F := F) (t := t - now) (by omega)).same s1).kept (R := R) (F := F + n * S)).same s2, fun u hu => ?_⟩, ?_, n2, ?_⟩
  · rw [← he u hu, hd, hr, kept_step]
    constructor
    · rintro ⟨⟨a, b, c⟩, d⟩
      exact ⟨a, ⟨b, c⟩, d⟩
    · rintro ⟨a, ⟨b, c⟩, d⟩
      exact ⟨⟨a, b, c⟩, d⟩
  · refine same_sl s2 n2 fun x hx => ?_
    obtain ⟨y, hy, rfl⟩ := List.mem_map.mp hx
    rw [kept_s]
    refine same_sl s1 n1 (l := -t) (m := t) (fun z hz => ?_) y hy
    obtain ⟨w, hw, hz⟩ := List.mem_flatMap.mp hz
    have := moved_sl (by omega) (h.sl w hw) hz
    omega
  · rw [List.length_map] at l2
    rw [moved_len] at l1
    have := h.len
    rw [Nat.pow_succ]
    omega
def g_keeping_stretches : Gs := fun cs M Q E => match cs, M with
  | [.d (.tuple [.int R, .int S]), .d (.int p), .d (.list xs), .d (.int most)], [] => ∃ ds : List Item, xs = ds.map itD ∧ (((3 ≤ R ∧ Sm S) ∧ ds.length ≤ 12 ∧ Asc ds 0 ∧ (∀ x ∈ ds, x.1 ≤ 10 ^ 40 ∧ Sm x.2)) ∧ 0 ≤ most) ∧
    ∀ st : List Item, Cano st → (∀ u, memS st u ↔ 0 ≤ u ∧ u ≤ most ∧ keptI R S u ds 0 0 p = true) → st.length ≤ 1000000 → retL Q (st.map itD)
  | _, _ => False
def g_check_keeping : Gs := fun cs M Q E => match cs with
  | [.d (.tuple [.int R, .int S]), .d (.int p), .d (.list xs)] => (WhI R S ∧ BgI R p ∧ xs.length ≤ 60 ∧ driveOk xs 0) ∧ retD Q .none
  | _ => False
def g_kept_pulls : Gs := fun cs M Q E => match cs, M with
  | [.d (.tuple [.int R, .int S]), .d (.int p), .d (.list xs), .d (.int most)], [] => ∃ ds : List Item, xs = ds.map itD ∧ ((WhI R S ∧ Sm S) ∧ BgI R p ∧ ds.length ≤ 12 ∧ Asc ds 0 ∧ (∀ x ∈ ds, x.1 ≤ 10 ^ 40 ∧ Sm x.2) ∧ 0 ≤ most) ∧
    ∀ st : List Item, Cano st → (∀ u, memS st u ↔ 0 ≤ u ∧ u ≤ most ∧ keptI R S u ds 0 0 p = true) → st.length ≤ 1000000 → retL Q (st.map itD)
  | _, _ => False
/-! ### the laws' own -/
def PlanK (many : Int) (ds : List Item) : Prop := (ds.length : Int) ≤ many ∧ Asc ds 0 ∧ ∀ x ∈ ds, x.1 ≤ 10 ^ 30 ∧ -(10 ^ 32) ≤ x.2 ∧ x.2 ≤ 10 ^ 32
def g__law_planK : Gs := fun cs M Q E => match cs, M with
  | [.r 0, .d (.tuple [.int R, .int S]), .d (.int many), .d (.int far)], [.live [.int a, .int b, .int c]] => ((SrcOk a b c ∧ c + 200 ≤ 10 ^ 12) ∧ (WhI R S ∧ R ≤ 10 ^ 30) ∧ 0 ≤ many ∧ many ≤ 12 ∧ 1 ≤ far ∧ far ≤ 10 ^ 27) ∧ ∀ (ds : List Item) (a' c' : Int), PlanK many ds → 0 ≤ a' → c ≤ c' → c' ≤ c + 200 → retLR Q [.int a', .int b, .int c'] (ds.map itD)
  | _, _ => False
def g__law_kept : Gs := fun cs M Q E => match cs, M with
  | [.d (.tuple [.int R, .int S]), .d (.int p), .d (.list xs), .d (.int u)], [] => ∃ ds : List Item, xs = ds.map itD ∧ (3 ≤ R ∧ Sm S ∧ Sm u ∧ Asc ds 0 ∧ ∀ x ∈ ds, x.1 ≤ 10 ^ 30 ∧ -(10 ^ 32) ≤ x.2 ∧ x.2 ≤ 10 ^ 32) ∧ retD Q (.bool (keptI R S u ds 0 0 p))
  | _, _ => False
theorem w_planKG {M : Mem} {Q : Qx} {ρ : Rho} {Wh : Xc → Rho → Mem → Prop} {n kk : Nat} {a b c R S many far : Int} (hn : 4 = kk) (hm : At n M b a c) (pre : (SrcOk a b c ∧ c + 200 ≤ 10 ^ 12) ∧ (WhI R S ∧ R ≤ 10 ^ 30) ∧ 0 ≤ many ∧ many ≤ 12 ∧ 1 ≤ far ∧ far ≤ 10 ^ 27)
    (h : ∀ ds k a' c' M', PlanK many ds → 0 ≤ a' → c ≤ c' → c' ≤ c + 200 → At n M' b a' c' → n ≠ k → M'[k]? = some (.live (ds.map itD)) → Q (.r k) M') : gCallR kk g__law_planK Wh ρ Q [.r n, .d (.tuple [.int R, .int S]), .d (.int many), .d (.int far)] M := by
  refine w_gcallR hn rfl hm ?_
  refine ⟨pre, fun ds a' c' h1 h2 h3 h4 => w_retLR (h ds M.length a' c' _ h1 h2 h3 h4 (At.app (at_set hm)) (by have := hm.lt; omega) ?_)⟩
  have := @new_at (M.set n (.live [.int a', .int b, .int c'])) (.live (ds.map itD))
  rwa [List.length_set] at this
/-- stretches of a given drive -/
theorem kept_conc {R S p most : Int} {ds st : List Item} (st0 : List Item) (h : ((List.range (most.toNat + 1)).all fun (k : Nat) => keptI R S (k : Int) ds 0 0 p == st0.any fun s => decide (s.1 ≤ (k : Int)) && decide ((k : Int) ≤ s.2)) = true) (h0 : Cano st0) (hb : ∀ s ∈ st0, 0 ≤ s.1 ∧ s.2 ≤ most)
    (c : Cano st) (hm : ∀ u, memS st u ↔ 0 ≤ u ∧ u ≤ most ∧ keptI R S u ds 0 0 p = true) : st = st0 := by
  refine c.uniq h0 fun u => ?_
  rw [hm]
  have key : ∀ u, 0 ≤ u → u ≤ most → (keptI R S u ds 0 0 p = true ↔ memS st0 u) := fun u h1 h2 => by
    have := List.all_eq_true.mp h u.toNat (List.mem_range.mpr (by omega))
    rw [beq_iff_eq, Int.toNat_of_nonneg h1] at this
    rw [this, List.any_eq_true]
    unfold memS
    constructor
    · rintro ⟨s, hs, k⟩
      rw [Bool.and_eq_true, decide_eq_true_eq, decide_eq_true_eq] at k
      exact ⟨s, hs, k⟩
    · rintro ⟨s, hs, k⟩
      exact ⟨s, hs, by rw [Bool.and_eq_true, decide_eq_true_eq, decide_eq_true_eq]; exact k⟩
  constructor
  · rintro ⟨h1, h2, h3⟩
    exact (key u h1 h2).mp h3
  · rintro ⟨s, hs, h1, h2⟩
    have := hb s hs
    exact ⟨by omega, by omega, (key u (by omega) (by omega)).mpr ⟨s, hs, h1, h2⟩⟩
theorem flt_map {P : Int → Bool} {f : PyData → Bool} (hf : ∀ i, f (.int i) = P i) (is : List Int) : ((is.map PyData.int).filter f).map id = (is.filter P).map .int := by
  rw [List.map_id, List.filter_map]
  congr 1
  exact List.filter_congr fun i _ => hf i
def upI (n : Nat) : List Int := (List.range n).map fun (k : Nat) => (k : Int)
theorem up_ints (n : Nat) : Kt.intsFrom 0 n = (upI n).map .int := by
  unfold Kt.intsFrom upI
  rw [List.map_map]
  exact List.map_congr_left fun k _ => by show PyData.int (0 + (k : Int)) = _; rw [Int.zero_add]; rfl
theorem up_pw (n : Nat) : (upI n).Pairwise (· < ·) := by
  unfold upI
  rw [List.pairwise_map]
  exact List.pairwise_lt_range.imp fun h => by omega
theorem up_mem {n : Nat} {u : Int} : u ∈ upI n ↔ 0 ≤ u ∧ u < n := by
  unfold upI
  rw [List.mem_map]
  constructor
  · rintro ⟨k, hk, rfl⟩
    have := List.mem_range.mp hk
    omega
  · rintro ⟨h1, h2⟩
    exact ⟨u.toNat, List.mem_range.mpr (by omega), by omega⟩
theorem up_len (n : Nat) : (upI n).length = n := by unfold upI; rw [List.length_map, List.length_range]
theorem way_zero {h F : Int} : wayI h F 0 = h := by
  unfold wayI
  split <;> split <;> omega
theorem way_full {h F w : Int} (h1 : F - h ≤ w) (h2 : h - F ≤ w) : wayI h F w = F := by
  unfold wayI
  split <;> split <;> omega
/-- pulls of half a round and more do the same -/
theorem kept_same {R S u v : Int} (hu : R / 2 ≤ u) (hv : R / 2 ≤ v) (hR : 3 ≤ R) : ∀ (ds : List Item) (l now F h : Int), Asc ds l → now ≤ l → F - h ≤ R / 2 → h - F ≤ (R - 1) / 2 → keptI R S u ds now F h = keptI R S v ds now F h
  | [], _, _, _, _, _, _, _, _ => rfl
  | (t, n) :: r, l, now, F, h, ha, hl, c1, c2 => by
    obtain ⟨a1, a2, a3⟩ := ha
    have e : wayI h F (u * (t - now)) = wayI h F (v * (t - now)) := by
      by_cases ht : t = now
      · rw [ht, Int.sub_self, Int.mul_zero, Int.mul_zero]
      · have hx : ∀ x, R / 2 ≤ x → R / 2 ≤ x * (t - now) := fun x h => by
          have : x * 1 ≤ x * (t - now) := Int.mul_le_mul_of_nonneg_left (by omega) (by omega)
          omega
        have hu' := hx u hu
        have hv' := hx v hv
        rw [way_full (by omega) (by omega), way_full (by omega) (by omega)]
    show (decide _ && decide _ && keptI R S u r t (F + n * S) _) = (decide _ && decide _ && keptI R S v r t (F + n * S) _)
    rw [e]
    by_cases k1 : F + n * S - wayI h F (v * (t - now)) ≤ R / 2
    · by_cases k2 : wayI h F (v * (t - now)) - (F + n * S) ≤ (R - 1) / 2
      · rw [kept_same hu hv hR r (t + 1) t (F + n * S) _ a3 (by omega) k1 k2]
      · rw [decide_eq_false k2, Bool.and_false, Bool.false_and, Bool.false_and]
    · rw [decide_eq_false k1, Bool.false_and, Bool.false_and, Bool.false_and]
theorem st_shw {st : List Item} (hl : st.length ≤ 200) (hb : ∀ s ∈ st, Sm0 s.1 ∧ Sm0 s.2) : Shw 2 1000 (.list (st.map itD)) := .lst (b := 2) (fun x hx => by
  obtain ⟨s, hs, rfl⟩ := List.mem_map.mp hx
  obtain ⟨h1, h2⟩ := hb s hs
  exact .tup (b := 0) (Kt.all_c (.int h1) (Kt.all_c (.int h2) Kt.all_n)) (by simp)) (by rw [List.length_map]; omega)
theorem cano_bd {st : List Item} {l m : Int} (c : Cano st) (h : ∀ u, memS st u → l ≤ u ∧ u ≤ m) : ∀ s ∈ st, l ≤ s.1 ∧ s.1 ≤ s.2 ∧ s.2 ≤ m := fun s hs => by
  have n := c.ne s hs
  exact ⟨(h s.1 ⟨s, hs, Int.le_refl _, n⟩).1, n, (h s.2 ⟨s, hs, n, Int.le_refl _⟩).2⟩
theorem BgI.far {R p : Int} (h : BgI R p) : 0 - p ≤ R / 2 ∧ p - 0 ≤ (R - 1) / 2 := by
  unfold BgI at h
  omega
theorem far_mem {R S p top u : Int} {ds : List Item} (hR : 3 ≤ R) (ha : Asc ds 0) (hp : BgI R p) (ht : R / 2 ≤ top) (hu : top ≤ u) : keptI R S u ds 0 0 p = keptI R S top ds 0 0 p :=
  kept_same (by omega) ht hR ds 0 0 0 p ha (Int.le_refl _) hp.far.1 hp.far.2
theorem far_eq {R S p top : Int} {ds st st2 : List Item} (hR : 3 ≤ R) (ha : Asc ds 0) (hp : BgI R p) (ht : R / 2 ≤ top) (h0 : 0 ≤ top) (h9 : top ≤ 10 ^ 29) (c : Cano st) (hm : ∀ u, memS st u ↔ (0 ≤ u ∧ u ≤ top) ∧ keptI R S u ds 0 0 p = true)
    (c2 : Cano st2) (h2 : ∀ u, memS st2 u ↔ 0 ≤ u ∧ u ≤ 10 ^ 29 ∧ keptI R S u ds 0 0 p = true) :
    (st = [] → st2 = []) ∧ ∀ init l, st = init ++ [l] → (l.2 = top → st2 = init ++ [(l.1, 10 ^ 29)]) ∧ (l.2 ≠ top → st2 = init ++ [l]) := by
  have no : (∀ s ∈ st, s.2 ≠ top) → st2 = st := fun h => by
    have nt : ¬ keptI R S top ds 0 0 p = true := fun k => by
      obtain ⟨s, hs, k1, k2⟩ := (hm top).mpr ⟨⟨h0, Int.le_refl _⟩, k⟩
      have := ((hm s.2).mp ⟨s, hs, c.ne s hs, Int.le_refl _⟩).1.2
      exact h s hs (by omega)
    refine c2.uniq c fun u => ?_
    rw [h2, hm]
    constructor
    · rintro ⟨k1, k2, k3⟩
      refine ⟨⟨k1, ?_⟩, k3⟩
      by_cases hu : u ≤ top
      · exact hu
      · rw [far_mem hR ha hp ht (by omega)] at k3
        exact absurd k3 nt
    · rintro ⟨⟨k1, k2⟩, k3⟩
      exact ⟨k1, by omega, k3⟩
  refine ⟨fun e => ?_, fun init l e => ⟨fun hl => ?_, fun hl => ?_⟩⟩
  · subst e
    exact no fun s hs => by cases hs
  · subst e
    have nl := c.ne l (List.mem_append_right _ List.mem_cons_self)
    have kt := ((hm top).mp ⟨l, List.mem_append_right _ List.mem_cons_self, by omega, by omega⟩).2
    refine c2.uniq ⟨fun s hs => ?_, ?_⟩ fun u => ?_
    · rcases List.mem_append.mp hs with hs | hs
      · exact c.ne s (List.mem_append_left _ hs)
      · rw [List.mem_singleton.mp hs]
        dsimp only
        omega
    · obtain ⟨g1, _, g3⟩ := List.pairwise_append.mp c.gap
      refine List.pairwise_append.mpr ⟨g1, List.pairwise_singleton _ _, fun s hs t ht => ?_⟩
      rw [List.mem_singleton.mp ht]
      exact g3 s hs l List.mem_cons_self
    · have hmu := hm u
      rw [memS_app, memS_one] at hmu
      rw [memS_app, memS_one, h2]
      dsimp only
      constructor
      · rintro ⟨k1, k2, k3⟩
        by_cases hu : u ≤ top
        · rcases hmu.mpr ⟨⟨k1, hu⟩, k3⟩ with h | h
          · exact .inl h
          · exact .inr (by omega)
        · exact .inr (by omega)
      · rintro (h | h)
        · obtain ⟨⟨k1, k2⟩, k3⟩ := hmu.mp (.inl h)
          exact ⟨k1, by omega, k3⟩
        · by_cases hu : u ≤ top
          · obtain ⟨⟨k1, k2⟩, k3⟩ := hmu.mp (.inr (by omega))
            exact ⟨k1, by omega, k3⟩
          · have hl0 := ((hm l.1).mp ⟨l, List.mem_append_right _ List.mem_cons_self, Int.le_refl _, nl⟩).1.1
            exact ⟨by omega, by omega, by rw [far_mem hR ha hp ht (by omega)]; exact kt⟩
  · subst e
    refine no fun s hs => ?_
    rcases List.mem_append.mp hs with hs | hs
    · have := (List.pairwise_append.mp c.gap).2.2 s hs l List.mem_cons_self
      have nl := c.ne l (List.mem_append_right _ List.mem_cons_self)
      have := ((hm l.2).mp ⟨l, List.mem_append_right _ List.mem_cons_self, nl, Int.le_refl _⟩).1.2
      omega
    · rw [List.mem_singleton.mp hs]
      exact hl
theorem flt_pw {P : Int → Bool} {is : List Int} (h : is.Pairwise (· < ·)) : (is.filter P).Pairwise (· < ·) := h.sublist List.filter_sublist
theorem flt_le {P : Int → Bool} (is : List Int) : (is.filter P).length ≤ is.length := List.length_filter_le _ _
theorem cut_init (xs : List PyData) (x : PyData) : Kt.cutD (xs ++ [x]) none (some (-1)) = xs := by
  unfold Kt.cutD
  have e0 : HT.sIx (xs ++ [x]).length 0 none = 0 := rfl
  have e1 : HT.sIx (xs ++ [x]).length (xs ++ [x]).length (some (-1)) = xs.length := by
    unfold HT.sIx
    rw [List.length_append, List.length_singleton]
    simp
    omega
  rw [e0, e1, List.drop_zero, Nat.sub_zero]
  exact List.take_left
theorem cut_take (xs : List PyData) (k : Nat) : Kt.cutD xs none (some (k : Int)) = xs.take k := by
  unfold Kt.cutD
  rw [HT.sIx_nat, HT.sIx_none, List.drop_zero, Nat.sub_zero]
  by_cases h : k ≤ xs.length
  · rw [Nat.min_eq_left h]
  · rw [Nat.min_eq_right (by omega), List.take_length, List.take_of_length_le (by omega)]
theorem cut_mid (xs : List PyData) (j k : Nat) : ∀ x ∈ Kt.cutD xs (some (j : Int)) (some (k : Int)), x ∈ xs.drop j := fun x hx => by
  unfold Kt.cutD at hx
  rw [HT.sIx_nat, HT.sIx_nat] at hx
  have := List.mem_of_mem_take hx
  by_cases h : j ≤ xs.length
  · rwa [Nat.min_eq_left h] at this
  · rw [Nat.min_eq_right (by omega), List.drop_length] at this
    cases this
theorem cut_len2 (xs : List PyData) (j k : Nat) : (Kt.cutD xs (some (j : Int)) (some (k : Int))).length ≤ k := by
  unfold Kt.cutD
  rw [HT.sIx_nat, HT.sIx_nat, List.length_take]
  omega
/-! ### the next change -/
def NextOk (K : Int → Bool) (v : Int) : Option Int → Prop
  | some x => v < x ∧ (∀ y, v ≤ y → y < x → K y = K v) ∧ K x ≠ K v
  | none => ∀ y, v ≤ y → K y = K v
def optD : Option Int → PyData
  | some x => .int x
  | none => .none
theorem NextOk.uniq {K : Int → Bool} {v : Int} : ∀ {r r' : Option Int}, NextOk K v r → NextOk K v r' → r = r'
  | some x, some y, ⟨a1, a2, a3⟩, ⟨b1, b2, b3⟩ => by
    rcases Int.lt_trichotomy x y with h | h | h
    · exact absurd (b2 x (by omega) h) a3
    · rw [h]
    · exact absurd (a2 y (by omega) h) b3
  | some x, none, ⟨a1, a2, a3⟩, b => absurd (b x (by omega)) a3
  | none, some y, a, ⟨b1, b2, b3⟩ => absurd (a y (by omega)) b3
  | none, none, _, _ => rfl
theorem NextOk.le {K : Int → Bool} {v m x : Int} (h : NextOk K v (some x)) (hs : ∀ u, m ≤ u → K u = K m) : x ≤ m := by
  obtain ⟨h1, h2, h3⟩ := h
  refine Int.not_lt.mp fun hx => h3 ?_
  by_cases hv : v ≤ m
  · rw [hs x (by omega), ← h2 m hv hx]
  · rw [hs x (by omega), hs v (by omega)]
theorem next_hi {K : Int → Bool} {v m : Int} (hs : ∀ u, m ≤ u → K u = K m) (hv : m ≤ v) : NextOk K v none := fun y hy => by rw [hs y (by omega), hs v hv]
theorem next_at (K : Int → Bool) {v x : Int} (h : v < x) (h2 : ((List.range (x - v).toNat).all fun (k : Nat) => K (v + k) == K v) = true) (h3 : (K x == K v) = false) : NextOk K v (some x) := by
  refine ⟨h, fun y h4 h5 => ?_, fun e => by rw [e, beq_self_eq_true] at h3; cases h3⟩
  have := List.all_eq_true.mp h2 (y - v).toNat (List.mem_range.mpr (by omega))
  rw [beq_iff_eq, Int.toNat_of_nonneg (by omega), show v + (y - v) = y by omega] at this
  exact this
theorem next_no (K : Int → Bool) {v m : Int} (hs : ∀ u, m ≤ u → K u = K m) (h : v ≤ m) (h2 : ((List.range (m - v + 1).toNat).all fun (k : Nat) => K (v + k) == K v) = true) : NextOk K v none := fun y hy => by
  have key : ∀ y, v ≤ y → y ≤ m → K y = K v := fun y h4 h5 => by
    have := List.all_eq_true.mp h2 (y - v).toNat (List.mem_range.mpr (by omega))
    rw [beq_iff_eq, Int.toNat_of_nonneg (by omega), show v + (y - v) = y by omega] at this
    exact this
  by_cases hm : y ≤ m
  · exact key y hy hm
  · rw [hs y (by omega), key m h (Int.le_refl _)]
section
variable {K : Int → Bool} {st : List Item} {most v : Int} {i : Nat} {s : Item}
theorem next_low (c : Cano st) (hm : ∀ u, memS st u ↔ 0 ≤ u ∧ u ≤ most ∧ K u = true) (h0 : 0 ≤ v) (hs : st[i]? = some s) (hp : ∀ t ∈ st.take i, t.2 < v) (h : v < s.1) : NextOk K v (some s.1) := by
  have hms := List.mem_of_getElem? hs
  have hn := c.ne s hms
  have k1 := (hm s.1).mp ⟨s, hms, Int.le_refl _, hn⟩
  have k2 := (hm s.2).mp ⟨s, hms, hn, Int.le_refl _⟩
  have hi := (List.getElem?_eq_some_iff.mp hs).1
  have hsp : st = st.take i ++ s :: st.drop (i + 1) := by
    have := (List.take_append_drop i st).symm
    rwa [List.drop_eq_getElem_cons hi, (List.getElem?_eq_some_iff.mp hs).2] at this
  have no : ∀ y, v ≤ y → y < s.1 → K y = false := fun y h1 h2 => by
    cases hk : K y with
    | false => rfl
    | true =>
      obtain ⟨t, ht, t1, t2⟩ := (hm y).mpr ⟨by omega, by omega, hk⟩
      rw [hsp] at ht
      rcases List.mem_append.mp ht with ht | ht
      · have := hp t ht
        omega
      · rcases List.mem_cons.mp ht with rfl | ht
        · omega
        · have g := c.gap
          rw [hsp] at g
          have := (List.pairwise_cons.mp (List.pairwise_append.mp g).2.1).1 t ht
          omega
  exact ⟨h, fun y h1 h2 => by rw [no y h1 h2, no v (Int.le_refl _) h], by rw [k1.2.2, no v (Int.le_refl _) h]; exact nofun⟩
theorem next_in (c : Cano st) (hm : ∀ u, memS st u ↔ 0 ≤ u ∧ u ≤ most ∧ K u = true) (hsame : ∀ u, most ≤ u → K u = K most) (hs : st[i]? = some s) (h1 : s.1 ≤ v) (h2 : v ≤ s.2) : NextOk K v (if s.2 < most then some (s.2 + 1) else none) := by
  have hms := List.mem_of_getElem? hs
  have k2 := (hm s.2).mp ⟨s, hms, by omega, Int.le_refl _⟩
  have yes : ∀ y, v ≤ y → y ≤ s.2 → K y = true := fun y h3 h4 => ((hm y).mp ⟨s, hms, by omega, h4⟩).2.2
  split
  · rename_i hlt
    refine ⟨by omega, fun y h3 h4 => by rw [yes y h3 (by omega), yes v (Int.le_refl _) h2], ?_⟩
    rw [yes v (Int.le_refl _) h2]
    intro e
    obtain ⟨t, ht, t1, t2⟩ := (hm (s.2 + 1)).mpr ⟨by omega, by omega, e⟩
    obtain ⟨j, hj⟩ := List.getElem?_of_mem ht
    have g := List.pairwise_iff_getElem.mp c.gap
    have hi := List.getElem?_eq_some_iff.mp hs
    have hj := List.getElem?_eq_some_iff.mp hj
    obtain ⟨i1, i2⟩ := hi
    obtain ⟨j1, j2⟩ := hj
    rcases Nat.lt_trichotomy i j with l | l | l
    · have := g i j i1 j1 l
      rw [i2, j2] at this
      omega
    · subst l
      rw [i2] at j2
      rw [← j2] at t2
      omega
    · have := g j i j1 i1 l
      rw [i2, j2] at this
      omega
  · rename_i hlt
    intro y hy
    rw [yes v (Int.le_refl _) h2]
    by_cases h3 : y ≤ s.2
    · exact yes y hy h3
    · rw [hsame y (by omega), show most = s.2 by omega]
      exact yes _ h2 (Int.le_refl _)
theorem next_end (hm : ∀ u, memS st u ↔ 0 ≤ u ∧ u ≤ most ∧ K u = true) (hsame : ∀ u, most ≤ u → K u = K most) (h0 : 0 ≤ v) (hp : ∀ t ∈ st, t.2 < v) : NextOk K v none := by
  by_cases hv : v ≤ most
  · have no : ∀ y, v ≤ y → y ≤ most → K y = false := fun y h1 h2 => by
      cases hk : K y with
      | false => rfl
      | true =>
        obtain ⟨t, ht, t1, t2⟩ := (hm y).mpr ⟨by omega, h2, hk⟩
        have := hp t ht
        omega
    intro y hy
    rw [no v (Int.le_refl _) hv]
    by_cases h : y ≤ most
    · exact no y hy h
    · rw [hsame y (by omega)]
      exact no _ hv (Int.le_refl _)
  · exact next_hi hsame (by omega)
end
def NxI (R S p : Int) (ds : List Item) : Int → Option Int → Prop := NextOk fun u => keptI R S u ds 0 0 p
theorem kept_far {R S p : Int} {ds : List Item} (hR : 3 ≤ R) (ha : Asc ds 0) (hp : BgI R p) : ∀ u, R / 2 ≤ u → keptI R S u ds 0 0 p = keptI R S (R / 2) ds 0 0 p := fun u hu => far_mem hR ha hp (Int.le_refl _) hu
def g_next_change : Gs := fun cs M Q E => match cs, M with
  | [.d (.tuple [.int R, .int S]), .d (.int p), .d (.list xs), .d (.int v)], [] => ∃ ds : List Item, xs = ds.map itD ∧ ((WhI R S ∧ Sm S) ∧ BgI R p ∧ ds.length ≤ 12 ∧ Asc ds 0 ∧ (∀ x ∈ ds, x.1 ≤ 10 ^ 40 ∧ Sm x.2) ∧ 0 ≤ v) ∧
    ∀ r : Option Int, NxI R S p ds v r → retD Q (optD r)
  | _, _ => False
def inS (st : List Item) (u : Int) : Bool := st.any fun s => decide (s.1 ≤ u) && decide (u ≤ s.2)
theorem inS_mem {st : List Item} {u : Int} : inS st u = true ↔ memS st u := by
  unfold inS memS
  rw [List.any_eq_true]
  constructor
  · rintro ⟨s, hs, k⟩
    rw [Bool.and_eq_true, decide_eq_true_eq, decide_eq_true_eq] at k
    exact ⟨s, hs, k⟩
  · rintro ⟨s, hs, k⟩
    exact ⟨s, hs, by rw [Bool.and_eq_true, decide_eq_true_eq, decide_eq_true_eq]; exact k⟩
end Lw

set_option Elab.async false
set_option linter.all false
set_option maxRecDepth 100000
set_option maxHeartbeats 4000000
namespace Lw
open PySem PySem.Spec PyProof.Rows L2 Kt
/-! ### risk and loss -/
def g_check_start : Gs := fun cs M Q E => match cs with
  | [.d (.tuple [.int R, .int S]), .d (.tuple [.int l, .int g])] => (BgI R l ∧ BgI R g ∧ l ≤ g) ∧ retD Q .none
  | _ => False
def g_check_ways : Gs := fun cs M Q E => match cs with
  | [.d (.tuple [.int R, .int S]), .d (.int low), .d (.int high), .d (.tuple [.int l, .int g]), .d (.list xs)] => (WhI R S ∧ (0 ≤ low ∧ low ≤ high) ∧ (BgI R l ∧ BgI R g ∧ l ≤ g) ∧ xs.length ≤ 60 ∧ driveOk xs 0) ∧ retD Q .none
  | _ => False
def drawnI (aim : Int) (k : Item) (s L : Int) : Item :=
  (if k.1 < aim then (if k.1 + s < aim then k.1 + s else aim) else (if k.1 - L > aim then k.1 - L else aim),
   if k.2 > aim then (if k.2 - s > aim then k.2 - s else aim) else (if k.2 + L < aim then k.2 + L else aim))
def g_drawn : Gs := fun cs M Q E => match cs, M with
  | [.d (.int aim), .d (.tuple [.int l, .int g]), .d (.int s), .d (.int L)], [] => retD Q (itD (drawnI aim (l, g) s L))
  | _, _ => False
abbrev Span := Item × Option Item
def optI : Option Item → PyData
  | some k => itD k
  | none => .none
def spD (x : Span) : PyData := .tuple [itD x.1, optI x.2]
def cutK (R F : Int) (c : Item) : Item := (if F - R / 2 > c.1 then F - R / 2 else c.1, if F + (R - 1) / 2 < c.2 then F + (R - 1) / 2 else c.2)
def spansI (R S lo hi : Int) : List Item → Int → Int → Item → List Span
  | [], _, _, _ => []
  | (t, n) :: r, now, F, k =>
    if (cutK R (F + n * S) (drawnI F k (lo * (t - now)) (hi * (t - now)))).1 > (cutK R (F + n * S) (drawnI F k (lo * (t - now)) (hi * (t - now)))).2 then [(drawnI F k (lo * (t - now)) (hi * (t - now)), none)]
    else (drawnI F k (lo * (t - now)) (hi * (t - now)), some (cutK R (F + n * S) (drawnI F k (lo * (t - now)) (hi * (t - now))))) :: spansI R S lo hi r t (F + n * S) (cutK R (F + n * S) (drawnI F k (lo * (t - now)) (hi * (t - now))))
theorem spans_nil {R S lo hi now F : Int} {k : Item} : spansI R S lo hi [] now F k = [] := rfl
theorem spans_cons {R S lo hi t n now F : Int} {k : Item} {r : List Item} : spansI R S lo hi ((t, n) :: r) now F k = if (cutK R (F + n * S) (drawnI F k (lo * (t - now)) (hi * (t - now)))).1 > (cutK R (F + n * S) (drawnI F k (lo * (t - now)) (hi * (t - now)))).2 then [(drawnI F k (lo * (t - now)) (hi * (t - now)), none)]
    else (drawnI F k (lo * (t - now)) (hi * (t - now)), some (cutK R (F + n * S) (drawnI F k (lo * (t - now)) (hi * (t - now))))) :: spansI R S lo hi r t (F + n * S) (cutK R (F + n * S) (drawnI F k (lo * (t - now)) (hi * (t - now)))) := rfl
theorem spans_len {R S lo hi : Int} : ∀ (ds : List Item) (now F : Int) (k : Item), (spansI R S lo hi ds now F k).length ≤ ds.length
  | [], _, _, _ => Nat.le_refl _
  | (t, n) :: r, now, F, k => by
    unfold spansI
    split
    · simp
    · rw [List.length_cons, List.length_cons]
      exact Nat.succ_le_succ (spans_len r _ _ _)
def WayOk (R S lo hi : Int) (ds : List Item) : Prop := (3 ≤ R ∧ Sm S ∧ Sm lo ∧ Sm hi) ∧ ds.length ≤ 60 ∧ Asc ds 0 ∧ ∀ x ∈ ds, Sm x.1 ∧ Sm x.2
def g_kept_spans : Gs := fun cs M Q E => match cs, M with
  | [.d (.tuple [.int R, .int S]), .d (.int lo), .d (.int hi), .d (.tuple [.int l, .int g]), .d (.list xs)], [] => ∃ ds : List Item, xs = ds.map itD ∧ WayOk R S lo hi ds ∧ retL Q ((spansI R S lo hi ds 0 0 (l, g)).map spD)
  | _, _ => False
def isRisk (x : Span) : Bool := match x.2 with
  | some k => !(decide (x.1.1 = k.1) && decide (x.1.2 = k.2))
  | none => true
def isLoss (x : Span) : Bool := x.2.isNone
theorem num_map_get {α : Type} {f : α → PyData} : ∀ {l : List α} {k i : Nat}, (Kt.numbered k (l.map f))[i]? = (l[i]?).map fun x => .tuple [.int ((k + i : Nat) : Int), f x]
  | [], _, _ => rfl
  | x :: r, k, 0 => rfl
  | x :: r, k, i + 1 => by
    show (Kt.numbered (k + 1) (r.map f))[i]? = _
    rw [num_map_get, List.getElem?_cons_succ]
    congr 1
    funext y
    rw [show k + 1 + i = k + (i + 1) from by omega]
theorem w_neTN {M : Mem} {Q : Qx} {a b : Int} (h : Q (.d (.bool true)) M) : pNe (.d (.tuple [.int a, .int b])) (.d .none) M Q := by
  refine w_neG rfl rfl ⟨⟨rfl, rfl⟩, ?_⟩
  have e : PyData.eqv (.tuple [.int a, .int b]) .none = false := by simp [PyData.eqv]
  rw [e]
  exact h
theorem w_neTT {M : Mem} {Q : Qx} {a b c d : Int} (h : Q (.d (.bool (!(decide (a = c) && decide (b = d))))) M) : pNe (.d (.tuple [.int a, .int b])) (.d (.tuple [.int c, .int d])) M Q := by
  refine w_neG rfl rfl ⟨⟨rfl, rfl⟩, ?_⟩
  have e : PyData.eqv (.tuple [.int a, .int b]) (.tuple [.int c, .int d]) = (decide (a = c) && decide (b = d)) := by
    simp only [PyData.eqv, PyData.eqvAll]
    by_cases h : a = c <;> by_cases h2 : b = d <;> simp [h, h2]
  rw [e]
  exact h
def idxI (f : Span → Bool) : List Span → Int → Option Int
  | [], _ => none
  | x :: r, i => if f x then some i else idxI f r (i + 1)
def g_risk_index : Gs := fun cs M Q E => match cs, M with
  | [.d (.list xs)], [] => ∃ sp : List Span, xs = sp.map spD ∧ sp.length ≤ 60 ∧ retD Q (optD (idxI isRisk sp 0))
  | _, _ => False
def g_loss_index : Gs := fun cs M Q E => match cs, M with
  | [.d (.list xs)], [] => ∃ sp : List Span, xs = sp.map spD ∧ sp.length ≤ 60 ∧ retD Q (optD (idxI isLoss sp 0))
  | _, _ => False
def WysOk (R S lo hi l g : Int) (ds : List Item) : Prop := WayOk R S lo hi ds ∧ WhI R S ∧ (0 ≤ lo ∧ lo ≤ hi) ∧ BgI R l ∧ BgI R g ∧ l ≤ g
def g_is_sure : Gs := fun cs M Q E => match cs, M with
  | [.d (.tuple [.int R, .int S]), .d (.int lo), .d (.int hi), .d (.tuple [.int l, .int g]), .d (.list xs)], [] => ∃ ds : List Item, xs = ds.map itD ∧ WysOk R S lo hi l g ds ∧ retD Q (.bool (idxI isRisk (spansI R S lo hi ds 0 0 (l, g)) 0).isNone)
  | _, _ => False
def g_can_keep : Gs := fun cs M Q E => match cs, M with
  | [.d (.tuple [.int R, .int S]), .d (.int lo), .d (.int hi), .d (.tuple [.int l, .int g]), .d (.list xs)], [] => ∃ ds : List Item, xs = ds.map itD ∧ WysOk R S lo hi l g ds ∧ retD Q (.bool (idxI isLoss (spansI R S lo hi ds 0 0 (l, g)) 0).isNone)
  | _, _ => False
def g_first_risk : Gs := fun cs M Q E => match cs, M with
  | [.d (.tuple [.int R, .int S]), .d (.int lo), .d (.int hi), .d (.tuple [.int l, .int g]), .d (.list xs)], [] => ∃ ds : List Item, xs = ds.map itD ∧ WysOk R S lo hi l g ds ∧ retD Q (optD (idxI isRisk (spansI R S lo hi ds 0 0 (l, g)) 0))
  | _, _ => False
/-! ### one pull alone -/
def InR (R f p : Int) : Prop := f - p ≤ R / 2 ∧ p - f ≤ (R - 1) / 2
theorem rest_in {R f p : Int} (hR : 3 ≤ R) (h : InR R f p) : restI R f p = f - p := by
  obtain ⟨h1, h2⟩ := h
  unfold restI
  rw [Int.emod_eq_of_lt (by omega) (by omega)]
  omega
theorem lost_iff {R f p : Int} (hR : 3 ≤ R) : lostI R f p = 0 ↔ InR R f p := by
  have rb := @rest_bd R f p (by omega)
  constructor
  · intro h
    have e : f - (p + restI R f p) = R * ((f - p + (R - 1) / 2) / R) := by
      unfold restI
      have := Int.emod_add_mul_ediv (f - p + (R - 1) / 2) R
      omega
    unfold lostI at h
    rw [e, Int.mul_ediv_cancel_left _ (by omega)] at h
    rw [h, Int.mul_zero] at e
    exact ⟨by omega, by omega⟩
  · intro h
    unfold lostI
    rw [rest_in hR h, show f - (p + (f - p)) = 0 by omega, Int.zero_ediv]
theorem moved_way {R f p w : Int} (hR : 3 ≤ R) (h : InR R f p) (hw : 0 ≤ w) : movedI R f p w = wayI p f w := by
  unfold movedI wayI
  rw [rest_in hR h]
  repeat' split
  all_goals omega
theorem drawn_way {F h w : Int} (hw : 0 ≤ w) : drawnI F (h, h) w w = (wayI h F w, wayI h F w) := by
  unfold drawnI wayI
  refine Prod.ext ?_ ?_
  · dsimp only
    repeat' split
    all_goals omega
  · dsimp only
    repeat' split
    all_goals omega
theorem cut_in {R F h : Int} (hi : InR R F h) : cutK R F (h, h) = (h, h) := by
  obtain ⟨h1, h2⟩ := hi
  unfold cutK
  dsimp only
  rw [if_neg (by omega), if_neg (by omega)]
theorem cut_out {R F h : Int} (hR : 3 ≤ R) : (cutK R F (h, h)).1 > (cutK R F (h, h)).2 ↔ ¬ InR R F h := by
  unfold cutK InR
  dsimp only
  repeat' split
  all_goals omega
def lossL (R S u : Int) (ds : List Item) (now F h : Int) : List Int := (marksI R S u ds now F h).map fun m => lostI R m.2.1 m.2.2
theorem one_pull {R S u : Int} (hR : 3 ≤ R) (hu : 0 ≤ u) : ∀ (ds : List Item) (now F h l k : Int), Asc ds l → now ≤ l → InR R F h →
    (keptI R S u ds now F h = true ∧ (∀ m ∈ marksI R S u ds now F h, lostI R m.2.1 m.2.2 = 0 ∧ InR R m.2.1 m.2.2) ∧ slI k 0 (lossL R S u ds now F h) = [] ∧ idxI isRisk (spansI R S u u ds now F (h, h)) k = none ∧ idxI isLoss (spansI R S u u ds now F (h, h)) k = none) ∨
    (keptI R S u ds now F h = false ∧ ∃ j x rest, slI k 0 (lossL R S u ds now F h) = (j, x) :: rest ∧ idxI isRisk (spansI R S u u ds now F (h, h)) k = some j ∧ idxI isLoss (spansI R S u u ds now F (h, h)) k = some j)
  | [], now, F, h, l, k, _, _, _ => .inl ⟨rfl, fun m hm => by (cases hm), rfl, rfl, rfl⟩
  | (t, n) :: r, now, F, h, l, k, ha, hl, hi => by
    obtain ⟨a1, a2, a3⟩ := ha
    have w0 : 0 ≤ u * (t - now) := Int.mul_nonneg hu (by omega)
    have em : movedI R F h (u * (t - now)) = wayI h F (u * (t - now)) := moved_way hR hi w0
    obtain ⟨h', hh'⟩ : ∃ h', h' = wayI h F (u * (t - now)) := ⟨_, rfl⟩
    have e1 : marksI R S u ((t, n) :: r) now F h = (t, F + n * S, h') :: marksI R S u r t (F + n * S) h' := by rw [hh', ← em]; rfl
    have e2 : lossL R S u ((t, n) :: r) now F h = lostI R (F + n * S) h' :: lossL R S u r t (F + n * S) h' := by unfold lossL; rw [e1]; rfl
    have e3 : keptI R S u ((t, n) :: r) now F h = (decide (F + n * S - h' ≤ R / 2) && decide (h' - (F + n * S) ≤ (R - 1) / 2) && keptI R S u r t (F + n * S) h') := by rw [hh']; rfl
    rw [spans_cons, drawn_way w0, ← hh', e1, e2, e3]
    by_cases hin : InR R (F + n * S) h'
    · have c1 : ¬ (cutK R (F + n * S) (h', h')).1 > (cutK R (F + n * S) (h', h')).2 := fun h => (cut_out hR).mp h hin
      have l0 := (lost_iff hR).mpr hin
      rw [if_neg c1, cut_in hin, l0]
      have f1 : isRisk ((h', h'), some (h', h')) = false := by simp [isRisk]
      have g1 : ∀ (f : Span → Bool) (rs : List Span), f ((h', h'), some (h', h')) = false → idxI f (((h', h'), some (h', h')) :: rs) k = idxI f rs (k + 1) := fun f rs e => by
        show (if f _ then some k else idxI f rs (k + 1)) = _
        rw [e]
        rfl
      have g2 : slI k 0 (0 :: lossL R S u r t (F + n * S) h') = slI (k + 1) 0 (lossL R S u r t (F + n * S) h') := by
        rw [slI_cons, if_pos rfl]
        rfl
      rw [g1 _ _ f1, g1 isLoss _ rfl, g2, decide_eq_true hin.1, decide_eq_true hin.2, Bool.true_and, Bool.true_and]
      rcases one_pull hR hu r t (F + n * S) h' (t + 1) (k + 1) a3 (by omega) hin with ⟨b1, b2, b3⟩ | h2
      · refine .inl ⟨b1, fun m hm => ?_, b3⟩
        rcases List.mem_cons.mp hm with rfl | hm
        · exact ⟨l0, hin⟩
        · exact b2 m hm
      · exact .inr h2
    · have c1 : (cutK R (F + n * S) (h', h')).1 > (cutK R (F + n * S) (h', h')).2 := (cut_out hR).mpr hin
      rw [if_pos c1]
      refine .inr ⟨?_, k, lostI R (F + n * S) h' - 0, slI (k + 1) (lostI R (F + n * S) h') (lossL R S u r t (F + n * S) h'), ?_, rfl, rfl⟩
      · rw [Bool.and_eq_false_iff]
        refine .inl ?_
        rw [← Bool.not_eq_true, Bool.and_eq_true, decide_eq_true_eq, decide_eq_true_eq]
        exact hin
      · rw [slI_cons, if_neg fun h => hin ((lost_iff hR).mp h)]
        rfl
theorem pastK_app {t : Int} {x y : List Item} : pastI t (x ++ y) = pastI t x ++ pastI t y := by
  unfold pastI
  rw [List.filter_append]
theorem pastK_all {t : Int} : ∀ {x : List Item}, (∀ z ∈ x, z.1 ≤ t) → pastI t x = x := fun h => by
  unfold pastI
  exact List.filter_eq_self.mpr fun z hz => decide_eq_true (h z hz)
theorem pastK_none {t : Int} : ∀ {x : List Item}, (∀ z ∈ x, t < z.1) → pastI t x = [] := fun h => by
  unfold pastI
  exact List.filter_eq_nil_iff.mpr fun z hz => by have := h z hz; simp; omega
theorem turns_snoc {x : List Item} {t n : Int} : turnsI (x ++ [(t, n)]) = turnsI x + n := by
  unfold turnsI
  rw [List.map_append, List.sum_append]
  show _ + (n + 0 : Int) = _
  omega
theorem mark_field {R S u : Int} : ∀ (ds pre : List Item) (now fl h l : Int), Asc ds l → (∀ x ∈ pre, x.1 < l) → fl = S * turnsI pre → ∀ m ∈ marksI R S u ds now fl h, m.2.1 = S * turnsI (pastI m.1 (pre ++ ds))
  | [], _, _, _, _, _, _, _, _, m, hm => by cases hm
  | (t, n) :: r, pre, now, fl, h, l, ha, hp, hf, m, hm => by
    obtain ⟨a1, a2, a3⟩ := ha
    have ef : fl + n * S = S * turnsI (pre ++ [(t, n)]) := by rw [turns_snoc, Int.mul_add, hf, Int.mul_comm n S]
    rcases List.mem_cons.mp (show m ∈ (t, fl + n * S, movedI R fl h (u * (t - now))) :: marksI R S u r t (fl + n * S) (movedI R fl h (u * (t - now))) from hm) with rfl | hm
    · dsimp only
      have e : pastI t (pre ++ (t, n) :: r) = pre ++ [(t, n)] := by
        rw [List.append_cons, pastK_app, pastK_all (x := pre ++ [(t, n)]) (fun z hz => ?_), pastK_none (x := r) (fun z hz => ?_), List.append_nil]
        · have := asc_ge a3 z hz
          omega
        · rcases List.mem_append.mp hz with hz | hz
          · have := hp z hz
            omega
          · rw [List.mem_singleton.mp hz]
            exact Int.le_refl _
      rw [ef, e]
    · rw [List.append_cons]
      refine mark_field r (pre ++ [(t, n)]) t _ _ (t + 1) a3 (fun z hz => ?_) ef m hm
      rcases List.mem_append.mp hz with hz | hz
      · have := hp z hz
        omega
      · rw [List.mem_singleton.mp hz]
        show t < t + 1
        omega
theorem turns_bd {B : Int} (hB : 0 ≤ B) : ∀ es : List Item, (∀ x ∈ es, -B ≤ x.2 ∧ x.2 ≤ B) → -(B * es.length) ≤ turnsI es ∧ turnsI es ≤ B * es.length
  | [], _ => by
    show -(B * (0 : Nat)) ≤ 0 ∧ 0 ≤ B * (0 : Nat)
    simp
  | x :: r, h => by
    have ih := turns_bd hB r fun y hy => h y (List.mem_cons_of_mem _ hy)
    have hx := h x List.mem_cons_self
    have e : turnsI (x :: r) = x.2 + turnsI r := rfl
    have e2 : B * ((x :: r).length : Int) = B * (r.length : Int) + B := by
      rw [List.length_cons, Int.natCast_add, Int.mul_add]
      simp
    rw [e, e2]
    omega
theorem w_eqNN {M : Mem} {Q : Qx} (h : Q (.d (.bool true)) M) : pEq (.d .none) (.d .none) M Q := by
  refine w_eqG rfl rfl ⟨⟨rfl, rfl⟩, ?_⟩
  have e : PyData.eqv .none .none = true := by simp [PyData.eqv]
  rw [e]
  exact h
theorem mark_tick {R S u : Int} : ∀ {ds : List Item} {now fl h l : Int}, Asc ds l → ∀ m ∈ marksI R S u ds now fl h, l ≤ m.1
  | [], _, _, _, _, _, m, hm => by cases hm
  | (t, n) :: r, now, fl, h, l, ha, m, hm => by
    obtain ⟨a1, a2, a3⟩ := ha
    rcases List.mem_cons.mp (show m ∈ (t, fl + n * S, movedI R fl h (u * (t - now))) :: marksI R S u r t (fl + n * S) (movedI R fl h (u * (t - now))) from hm) with rfl | hm
    · exact a1
    · have := mark_tick a3 m hm
      omega
theorem empty_kept {R S u p : Int} {ds : List Item} (hR : 3 ≤ R) (hu : 0 ≤ u) (ha : Asc ds 0) (bg : BgI R p) : (slI 0 0 (lostsI R S u ds p)).isEmpty = keptI R S u ds 0 0 p := by
  have lo : lostsI R S u ds p = lossL R S u ds 0 0 p := by unfold lostsI plI lossL; rw [List.map_map]; rfl
  rw [lo]
  rcases one_pull (S := S) hR hu ds 0 0 p 0 0 ha (Int.le_refl _) (bg.far : InR R 0 p) with ⟨e, _, e2, _⟩ | ⟨e, j, x, rest, e2, _⟩ <;> rw [e2, e] <;> rfl
def g_first_loss : Gs := fun cs M Q E => match cs, M with
  | [.d (.tuple [.int R, .int S]), .d (.int lo), .d (.int hi), .d (.tuple [.int l, .int g]), .d (.list xs)], [] => ∃ ds : List Item, xs = ds.map itD ∧ WysOk R S lo hi l g ds ∧ retD Q (optD (idxI isLoss (spansI R S lo hi ds 0 0 (l, g)) 0))
  | _, _ => False
/-- what is kept at an item, perhaps nothing -/
def keptAt (sp : List Span) (i : Int) : PyData := match sp[i.toNat]? with
  | some x => optI x.2
  | none => .none
def g_kept_span : Gs := fun cs M Q E => match cs, M with
  | [.d (.tuple [.int R, .int S]), .d (.int lo), .d (.int hi), .d (.tuple [.int l, .int g]), .d (.list xs), .d (.int i)], [] => ∃ ds : List Item, xs = ds.map itD ∧ (WysOk R S lo hi l g ds ∧ 0 ≤ i ∧ i < ds.length) ∧ retD Q (keptAt (spansI R S lo hi ds 0 0 (l, g)) i)
  | _, _ => False
end Lw

set_option Elab.async false
set_option linter.all false
set_option maxRecDepth 100000
set_option maxHeartbeats 4000000
namespace Lw
open PySem PySem.Spec PyProof.Rows L2 Kt
/-! ### the pool family's draws -/
def g__law_pool : Gs := fun cs M Q E => match cs, M with
  | [.s ns, .d (.int at_)], [] => (0 ≤ at_ ∧ at_ ≤ 1000) ∧ ∀ a b, StOk a b 0 → retL Q [.int a, .int b, .int 0]
  | _, _ => False
def PlanP (gap : Int) (ds : List Item) : Prop := Asc ds 0 ∧ ∀ x ∈ ds, x.1 ≤ (ds.length + 1) * (gap + 1) ∧ -(10 ^ 21) ≤ x.2 ∧ x.2 ≤ 10 ^ 21
def g_pdrive : Gs := fun cs M Q E => match cs, M with
  | [.r 0, .d (.int many), .d (.int gap), .d (.int top)], [.live [.int a, .int b, .int c]] => ((StOk a b c ∧ c + 1000 ≤ 10 ^ 12) ∧ 0 ≤ many ∧ many ≤ 60 ∧ 0 ≤ gap ∧ gap ≤ 10 ^ 28 ∧ 1 ≤ top ∧ top ≤ 10 ^ 20) ∧ ∀ ds a' c', (ds.length : Int) = many → PlanP gap ds → 0 ≤ a' → c ≤ c' → c' ≤ c + 1000 → retLR Q [.int a', .int b, .int c'] (ds.map itD)
  | _, _ => False
def g_pbegin : Gs := fun cs M Q E => match cs, M with
  | [.r 0, .d (.tuple [.int R, .int S])], [.live [.int a, .int b, .int c]] => ((StOk a b c ∧ c + 4 ≤ 10 ^ 12) ∧ 3 ≤ R ∧ R ≤ 10 ^ 31) ∧ ∀ l g a' c', BgI R l → BgI R g → l ≤ g → 0 ≤ a' → c ≤ c' → c' ≤ c + 4 → retDR Q [.int a', .int b, .int c'] (.tuple [.int l, .int g])
  | _, _ => False
/-- a pair of beginning places -/
def BpI (R : Int) (x : PyData) : Prop := ∃ l g, x = .tuple [.int l, .int g] ∧ BgI R l ∧ BgI R g ∧ l ≤ g
/-- a number, not 0 -/
def NzP (m : Int) (x : PyData) : Prop := ∃ i, x = .int i ∧ i ≠ 0 ∧ -m ≤ i ∧ i ≤ m
section
variable {M : Mem} {Q : Qx} {ρ : Rho} {Wh : Xc → Rho → Mem → Prop} {n kk : Nat} {a b c : Int}
theorem w_pdriveG {many gap top : Int} (hn : 4 = kk) (hm : At n M b a c) (pre : (StOk a b c ∧ c + 1000 ≤ 10 ^ 12) ∧ 0 ≤ many ∧ many ≤ 60 ∧ 0 ≤ gap ∧ gap ≤ 10 ^ 28 ∧ 1 ≤ top ∧ top ≤ 10 ^ 20)
    (h : ∀ ds k a' c' M', (ds.length : Int) = many → PlanP gap ds → 0 ≤ a' → c ≤ c' → c' ≤ c + 1000 → At n M' b a' c' → n ≠ k → M'[k]? = some (.live (ds.map itD)) → Q (.r k) M') : gCallR kk g_pdrive Wh ρ Q [.r n, .d (.int many), .d (.int gap), .d (.int top)] M := by
  refine w_gcallR hn rfl hm ?_
  refine ⟨pre, fun ds a' c' h0 h1 h2 h3 h4 => w_retLR (h ds M.length a' c' _ h0 h1 h2 h3 h4 (At.app (at_set hm)) (by have := hm.lt; omega) ?_)⟩
  have := @new_at (M.set n (.live [.int a', .int b, .int c'])) (.live (ds.map itD))
  rwa [List.length_set] at this
theorem w_pbeginG {R S : Int} (hn : 2 = kk) (hm : At n M b a c) (pre : (StOk a b c ∧ c + 4 ≤ 10 ^ 12) ∧ 3 ≤ R ∧ R ≤ 10 ^ 31)
    (h : ∀ l g a' c' M', BgI R l → BgI R g → l ≤ g → 0 ≤ a' → c ≤ c' → c' ≤ c + 4 → At n M' b a' c' → Kp n M M' → Q (.d (.tuple [.int l, .int g])) M') : gCallR kk g_pbegin Wh ρ Q [.r n, .d (.tuple [.int R, .int S])] M := by
  refine w_gcallR hn rfl hm ?_
  exact ⟨pre, fun l g a' c' h1 h2 h3 h4 h5 h6 => w_retDR (h l g a' c' _ h1 h2 h3 h4 h5 h6 (at_set hm) kp_set)⟩
end
end Lw

set_option Elab.async false
set_option linter.all false
set_option maxRecDepth 100000
set_option maxHeartbeats 4000000
namespace Lw
open PySem PySem.Spec PyProof.Rows L2 Kt
/-! ### aims by whole rounds -/
def kI (R F p : Int) : Int := (F - p + (R - 1) / 2) / R
def aimI (R F p : Int) : Int := p + restI R F p
theorem aim_k {R F p : Int} : aimI R F p = F - R * kI R F p := by
  unfold aimI restI kI
  have := Int.emod_add_mul_ediv (F - p + (R - 1) / 2) R
  omega
theorem k_anti {R F p q : Int} (h : 0 < R) (hp : p ≤ q) : kI R F q ≤ kI R F p := Int.ediv_le_ediv h (by omega)
theorem aim_mono {R F p q : Int} (h : 0 < R) (hp : p ≤ q) : aimI R F p ≤ aimI R F q := by
  rw [aim_k, aim_k]
  have := Int.mul_le_mul_of_nonneg_left (k_anti (F := F) h hp) (show 0 ≤ R by omega)
  omega
theorem k_iff {R F p k : Int} (h : 0 < R) : kI R F p = k ↔ F - R * k - R / 2 ≤ p ∧ p ≤ F - R * k + (R - 1) / 2 := by
  unfold kI
  have e := Int.emod_add_mul_ediv (F - p + (R - 1) / 2) R
  have e2 := Int.emod_nonneg (F - p + (R - 1) / 2) (show R ≠ 0 by omega)
  have e3 := Int.emod_lt_of_pos (F - p + (R - 1) / 2) h
  constructor
  · rintro rfl
    omega
  · rintro ⟨h1, h2⟩
    rw [Int.ediv_eq_iff_of_pos h]
    rw [Int.mul_comm]
    have : R * (k + 1) = R * k + R := by rw [Int.mul_add, Int.mul_one]
    constructor <;> omega
theorem aim_iff {R F p k : Int} (h : 0 < R) : aimI R F p = F - R * k ↔ F - R * k - R / 2 ≤ p ∧ p ≤ F - R * k + (R - 1) / 2 := by
  rw [← k_iff h, aim_k]
  constructor
  · intro e
    have : R * kI R F p = R * k := by omega
    exact Int.eq_of_mul_eq_mul_left (by omega) this
  · intro e
    rw [e]
theorem k_shift {R F p m : Int} (h : 0 < R) : kI R F (p + m * R) = kI R F p - m := by
  unfold kI
  rw [show F - (p + m * R) + (R - 1) / 2 = (F - p + (R - 1) / 2) + R * (-m) by rw [Int.mul_neg, Int.mul_comm R m]; omega, Int.add_mul_ediv_left _ _ (by omega)]
  omega
/-- how many aims less one a span has -/
def nI (R F : Int) (s : Item) : Nat := (kI R F s.1 - kI R F s.2).toNat
theorem n_eq {R F : Int} {s : Item} (h : 0 < R) (hs : s.1 ≤ s.2) : (nI R F s : Int) = kI R F s.1 - kI R F s.2 := by
  unfold nI
  have := k_anti (F := F) h hs
  omega
theorem aim_last {R F : Int} {s : Item} (h : 0 < R) (hs : s.1 ≤ s.2) : aimI R F s.2 = aimI R F s.1 + (nI R F s : Int) * R := by
  rw [aim_k, aim_k, n_eq h hs, Int.sub_mul, Int.mul_comm R, Int.mul_comm R]
  omega
def g_aims_of_span : Gs := fun cs M Q E => match cs, M with
  | [.d (.tuple [.int R, .int S]), .d (.int F), .d (.tuple [.int l, .int g])], [] => ((0 < R ∧ R < 10 ^ 100) ∧ l ≤ g ∧ nI R F (l, g) < 10000) ∧ retL Q ((List.range (nI R F (l, g) + 1)).map fun (m : Nat) => PyData.int (aimI R F l + (m : Int) * R))
  | _, _ => False
/-- one part: its aim, its span -/
abbrev Part := Int × Item
def partD (x : Part) : PyData := .tuple [.int x.1, itD x.2]
def mxI (a b : Int) : Int := if b > a then b else a
def mnI (a b : Int) : Int := if b < a then b else a
def partA (R : Int) (s : Item) (a : Int) : Part := (a, (mxI s.1 (a - R / 2), mnI s.2 (a + (R - 1) / 2)))
def partsS (R F : Int) (s : Item) : List Part := (List.range (nI R F s + 1)).map fun (m : Nat) => partA R s (aimI R F s.1 + (m : Int) * R)
def partsI (R F : Int) (st : List Item) : List Part := st.flatMap (partsS R F)
theorem partsS_len {R F : Int} {s : Item} : (partsS R F s).length = nI R F s + 1 := by
  unfold partsS
  rw [List.length_map, List.length_range]
theorem parts_ok {R F : Int} {s : Item} (h : 0 < R) (hs : s.1 ≤ s.2) {x : Part} (hx : x ∈ partsS R F s) : (x.2.1 ≤ x.2.2 ∧ s.1 ≤ x.2.1 ∧ x.2.2 ≤ s.2) ∧ ∀ p, x.2.1 ≤ p → p ≤ x.2.2 → aimI R F p = x.1 := by
  unfold partsS at hx
  obtain ⟨m, hm, rfl⟩ := List.mem_map.mp hx
  have hm' := List.mem_range.mp hm
  have en := n_eq (F := F) h hs
  have ea : aimI R F s.1 + (m : Int) * R = F - R * (kI R F s.1 - m) := by
    rw [aim_k, Int.mul_sub, Int.mul_comm R (m : Int)]
    omega
  unfold partA mxI mnI
  rw [ea]
  have k1 := (k_iff (F := F) (p := s.1) (k := kI R F s.1) h).mp rfl
  have k2 := (k_iff (F := F) (p := s.2) (k := kI R F s.2) h).mp rfl
  have q1 : R * (kI R F s.1 - m) ≤ R * kI R F s.1 := Int.mul_le_mul_of_nonneg_left (by omega) (by omega)
  have q2 : R * kI R F s.2 ≤ R * (kI R F s.1 - m) := Int.mul_le_mul_of_nonneg_left (by omega) (by omega)
  dsimp only
  refine ⟨⟨?_, ?_, ?_⟩, fun p h1 h2 => (aim_iff h).mpr ⟨?_, ?_⟩⟩
  · split <;> split <;> omega
  · split <;> omega
  · split <;> omega
  · split at h1 <;> omega
  · split at h2 <;> omega
theorem parts_all {R F : Int} {s : Item} (h : 0 < R) {p : Int} (h1 : s.1 ≤ p) (h2 : p ≤ s.2) : ∃ x ∈ partsS R F s, x.2.1 ≤ p ∧ p ≤ x.2.2 := by
  have en := n_eq (F := F) h (Int.le_trans h1 h2)
  have a1 := k_anti (F := F) h h1
  have a2 := k_anti (F := F) h h2
  refine ⟨partA R s (aimI R F s.1 + (((kI R F s.1 - kI R F p).toNat : Nat) : Int) * R), List.mem_map.mpr ⟨_, List.mem_range.mpr (by omega), rfl⟩, ?_⟩
  have ea : aimI R F s.1 + (((kI R F s.1 - kI R F p).toNat : Nat) : Int) * R = F - R * kI R F p := by
    rw [aim_k, Int.toNat_of_nonneg (by omega), Int.sub_mul, Int.mul_comm R, Int.mul_comm R]
    omega
  have k1 := (k_iff (F := F) (p := p) (k := kI R F p) h).mp rfl
  unfold partA mxI mnI
  rw [ea]
  dsimp only
  constructor <;> split <;> omega
/-! ### one wait -/
def setW (R F few many : Int) (P : Int → Prop) (u : Int) : Prop := ∃ p, P p ∧ ∃ w, few ≤ w ∧ w ≤ many ∧ u = movedI R F p w
theorem moved_to {R F p w a : Int} (ha : aimI R F p = a) : movedI R F p w = if -w ≤ a - p ∧ a - p ≤ w then a else if p < a then p + w else p - w := by
  have e : restI R F p = a - p := by unfold aimI at ha; omega
  unfold movedI
  rw [e]
  (repeat' split) <;> omega
theorem drawn_mem {R F a l g few many : Int} (hl : l ≤ g) (h0 : 0 ≤ few) (h1 : few ≤ many) (ha : ∀ p, l ≤ p → p ≤ g → aimI R F p = a) :
    (drawnI a (l, g) few many).1 ≤ (drawnI a (l, g) few many).2 ∧ ∀ u, ((drawnI a (l, g) few many).1 ≤ u ∧ u ≤ (drawnI a (l, g) few many).2) ↔ setW R F few many (fun p => l ≤ p ∧ p ≤ g) u := by
  refine ⟨by unfold drawnI; dsimp only; (repeat' split) <;> omega, fun u => ⟨fun h => ?_, ?_⟩⟩
  · have key : ∃ p w, l ≤ p ∧ p ≤ g ∧ few ≤ w ∧ w ≤ many ∧ u = if -w ≤ a - p ∧ a - p ≤ w then a else if p < a then p + w else p - w := by
      unfold drawnI at h
      dsimp only at h
      by_cases ua : u = a
      · -- some place comes to the aim
        subst ua
        by_cases c1 : l ≤ u ∧ u ≤ g
        · exact ⟨u, few, c1.1, c1.2, Int.le_refl _, h1, by rw [if_pos (by omega)]⟩
        · by_cases c2 : g < u
          · refine ⟨g, many, hl, Int.le_refl _, h1, Int.le_refl _, ?_⟩
            rw [if_pos]
            (repeat' split at h) <;> omega
          · refine ⟨l, many, Int.le_refl _, hl, h1, Int.le_refl _, ?_⟩
            rw [if_pos]
            (repeat' split at h) <;> omega
      · by_cases lt : u < a
        · -- from behind
          have hla : l < a := by (repeat' split at h) <;> omega
          have lo : l + few ≤ u := by (repeat' split at h) <;> omega
          by_cases c : u - many ≤ l
          · refine ⟨l, u - l, Int.le_refl _, hl, by omega, by omega, ?_⟩
            rw [if_neg (by omega), if_pos hla]
            omega
          · refine ⟨u - many, many, by omega, ?_, h1, Int.le_refl _, ?_⟩
            · (repeat' split at h) <;> omega
            · rw [if_neg (by omega), if_pos (by omega)]
              omega
        · have hga : a < g := by (repeat' split at h) <;> omega
          have hi : u ≤ g - few := by (repeat' split at h) <;> omega
          by_cases c : g ≤ u + many
          · refine ⟨g, g - u, hl, Int.le_refl _, by omega, by omega, ?_⟩
            rw [if_neg (by omega), if_neg (by omega)]
            omega
          · refine ⟨u + many, many, ?_, by omega, h1, Int.le_refl _, ?_⟩
            · (repeat' split at h) <;> omega
            · rw [if_neg (by omega), if_neg (by omega)]
              omega
    obtain ⟨p, w, p1, p2, w1, w2, e⟩ := key
    exact ⟨p, ⟨p1, p2⟩, w, w1, w2, by rw [moved_to (ha p p1 p2)]; exact e⟩
  · rintro ⟨p, ⟨p1, p2⟩, w, w1, w2, rfl⟩
    rw [moved_to (ha p p1 p2)]
    unfold drawnI
    dsimp only
    constructor <;> (repeat' split) <;> omega
theorem setW_congr {R F few many : Int} {P P' : Int → Prop} (h : ∀ u, P u ↔ P' u) (u : Int) : setW R F few many P u ↔ setW R F few many P' u :=
  ⟨fun ⟨p, h1, h2⟩ => ⟨p, (h p).mp h1, h2⟩, fun ⟨p, h1, h2⟩ => ⟨p, (h p).mpr h1, h2⟩⟩
theorem setW_zero {R F : Int} {P : Int → Prop} {u : Int} : setW R F 0 0 P u ↔ P u := by
  constructor
  · rintro ⟨p, h, w, w1, w2, rfl⟩
    rw [show w = 0 by omega, moved_zero]
    exact h
  · intro h
    exact ⟨u, h, 0, Int.le_refl _, Int.le_refl _, moved_zero.symm⟩
theorem setW_add {R F a b c d : Int} (h : 0 < R) (a0 : 0 ≤ a) (ab : a ≤ b) (c0 : 0 ≤ c) (cd : c ≤ d) {P : Int → Prop} {u : Int} : setW R F c d (setW R F a b P) u ↔ setW R F (a + c) (b + d) P u := by
  constructor
  · rintro ⟨_, ⟨p, hp, w, w1, w2, rfl⟩, v, v1, v2, rfl⟩
    exact ⟨p, hp, w + v, by omega, by omega, moved_add h (by omega) (by omega)⟩
  · rintro ⟨p, hp, w, w1, w2, rfl⟩
    by_cases hw : w - d ≥ a
    · exact ⟨_, ⟨p, hp, w - d, by omega, by omega, rfl⟩, d, cd, Int.le_refl _, by rw [moved_add h (by omega) (by omega)]; congr 1; omega⟩
    · exact ⟨_, ⟨p, hp, a, Int.le_refl _, ab, rfl⟩, w - a, by omega, by omega, by rw [moved_add h (by omega) (by omega)]; congr 1; omega⟩
/-! ### spread -/
def sprI (R F few many : Int) (st : List Item) : List Item := (partsI R F st).map fun x => drawnI x.1 x.2 few many
theorem spr_mem {R F few many : Int} {st : List Item} (h : 0 < R) (hs : ∀ s ∈ st, s.1 ≤ s.2) (h0 : 0 ≤ few) (h1 : few ≤ many) : (∀ s ∈ sprI R F few many st, s.1 ≤ s.2) ∧ ∀ u, memS (sprI R F few many st) u ↔ setW R F few many (memS st) u := by
  have dm : ∀ s ∈ st, ∀ x ∈ partsS R F s, (drawnI x.1 x.2 few many).1 ≤ (drawnI x.1 x.2 few many).2 ∧ ∀ u, ((drawnI x.1 x.2 few many).1 ≤ u ∧ u ≤ (drawnI x.1 x.2 few many).2) ↔ setW R F few many (fun p => x.2.1 ≤ p ∧ p ≤ x.2.2) u := fun s hm x hx => by
    obtain ⟨⟨i1, i2, i3⟩, i4⟩ := parts_ok h (hs s hm) hx
    exact drawn_mem i1 h0 h1 i4
  refine ⟨fun s hm => ?_, fun u => ⟨?_, ?_⟩⟩
  · obtain ⟨x, hx, rfl⟩ := List.mem_map.mp hm
    obtain ⟨t, ht, hx⟩ := List.mem_flatMap.mp hx
    exact (dm t ht x hx).1
  · rintro ⟨s, hm, hu⟩
    obtain ⟨x, hx, rfl⟩ := List.mem_map.mp hm
    obtain ⟨t, ht, hx⟩ := List.mem_flatMap.mp hx
    obtain ⟨p, ⟨p1, p2⟩, hp⟩ := ((dm t ht x hx).2 u).mp hu
    obtain ⟨⟨i1, i2, i3⟩, _⟩ := parts_ok h (hs t ht) hx
    exact ⟨p, ⟨t, ht, by omega, by omega⟩, hp⟩
  · rintro ⟨p, ⟨t, ht, p1, p2⟩, hp⟩
    obtain ⟨x, hx, x1, x2⟩ := parts_all (F := F) h p1 p2
    exact ⟨_, List.mem_map.mpr ⟨x, List.mem_flatMap.mpr ⟨t, ht, hx⟩, rfl⟩, ((dm t ht x hx).2 u).mpr ⟨p, ⟨x1, x2⟩, hp⟩⟩
theorem parts_cons {R F : Int} {s : Item} {r : List Item} : partsI R F (s :: r) = partsS R F s ++ partsI R F r := rfl
theorem parts_len {R F : Int} (h : 0 < R) : ∀ {st : List Item} {lo hi : Int}, Cano st → (∀ s ∈ st, lo ≤ s.1 ∧ s.2 ≤ hi) → lo ≤ hi → ((partsI R F st).length : Int) ≤ st.length + (kI R F lo - kI R F hi)
  | [], lo, hi, _, _, hl => by
    have := k_anti (F := F) h hl
    show ((0 : Nat) : Int) ≤ (0 : Nat) + _
    omega
  | s :: r, lo, hi, hc, hb, hl => by
    have ss := hc.ne s List.mem_cons_self
    obtain ⟨b1, b2⟩ := hb s List.mem_cons_self
    have ih := parts_len (R := R) (F := F) h (st := r) (lo := s.2) (hi := hi) hc.tail (fun t ht => ⟨by have := (List.pairwise_cons.mp hc.gap).1 t ht; omega, (hb t (List.mem_cons_of_mem _ ht)).2⟩) b2
    have en := n_eq (F := F) h ss
    have ka := k_anti (F := F) h b1
    rw [parts_cons, List.length_append, partsS_len, List.length_cons]
    omega
/-- all within so many rounds -/
def BdS (k : Nat) (R : Int) (st : List Item) : Prop := ∀ s ∈ st, -(k * R) ≤ s.1 ∧ s.2 ≤ k * R
theorem spr_len {R F few many : Int} {st : List Item} {k : Nat} (h : 0 < R) (hc : Cano st) (hb : BdS k R st) : (sprI R F few many st).length ≤ st.length + 2 * k := by
  have p : 0 ≤ (k : Int) * R := Int.mul_nonneg (by omega) (by omega)
  have := parts_len (F := F) h hc hb (by omega)
  have e1 : kI R F (-(k * R)) = kI R F 0 + k := by
    have := k_shift (R := R) (F := F) (p := 0) (m := -(k : Int)) h
    rw [Int.zero_add, Int.neg_mul] at this
    rw [this]
    omega
  have e2 : kI R F (k * R) = kI R F 0 - k := by
    have := k_shift (R := R) (F := F) (p := 0) (m := (k : Int)) h
    rw [Int.zero_add] at this
    exact this
  rw [e1, e2] at this
  unfold sprI
  rw [List.length_map]
  omega
theorem parts_len2 {R F : Int} {st : List Item} {k : Nat} (h : 0 < R) (hc : Cano st) (hb : BdS k R st) : (partsI R F st).length ≤ st.length + 2 * k := by
  have := spr_len (F := F) (few := 0) (many := 0) h hc hb
  unfold sprI at this
  rwa [List.length_map] at this
theorem n_bd {R F : Int} {st : List Item} {k : Nat} (h : 0 < R) (hc : Cano st) (hb : BdS k R st) {s : Item} (hs : s ∈ st) : nI R F s ≤ 2 * k := by
  have := parts_len2 (R := R) (F := F) (st := [s]) (k := k) h ⟨fun t ht => by rw [List.mem_singleton.mp ht]; exact hc.ne s hs, List.pairwise_singleton _ _⟩ (fun t ht => by rw [List.mem_singleton.mp ht]; exact hb s hs)
  rw [show partsI R F [s] = partsS R F s ++ [] from rfl, List.append_nil, partsS_len] at this
  have e : ([s] : List Item).length = 1 := rfl
  rw [e] at this
  omega
theorem parts_take {R F : Int} {st : List Item} {i : Nat} : (partsI R F (st.take i)).length ≤ (partsI R F st).length := by
  have e : partsI R F st = partsI R F (st.take i) ++ partsI R F (st.drop i) := by
    unfold partsI
    rw [← List.flatMap_append, List.take_append_drop]
  rw [e, List.length_append]
  omega
theorem bd_next {R F few many : Int} {st st' : List Item} {k : Nat} (h : 0 < R) (h0 : 0 ≤ few) (hb : BdS k R st) (hc : Cano st') (hm : ∀ u, memS st' u ↔ setW R F few many (memS st) u) : BdS (k + 1) R st' := fun s hs => by
  have e : ((k + 1 : Nat) : Int) * R = k * R + R := by rw [Int.natCast_add, Int.add_mul]; omega
  have key : ∀ u, memS st' u → -(k * R + R) ≤ u ∧ u ≤ k * R + R := fun u hu => by
    obtain ⟨p, ⟨t, ht, t1, t2⟩, w, w1, w2, rfl⟩ := (hm u).mp hu
    obtain ⟨b1, b2⟩ := hb t ht
    have := @moved_bd R F p w h (by omega)
    omega
  have ss := hc.ne s hs
  rw [e]
  exact ⟨(key s.1 ⟨s, hs, Int.le_refl _, ss⟩).1, (key s.2 ⟨s, hs, ss, Int.le_refl _⟩).2⟩
def g_parts_by_aim : Gs := fun cs M Q E => match cs, M with
  | [.d (.tuple [.int R, .int S]), .d (.int F), .d (.list xs)], [] => ∃ (st : List Item) (k : Nat), xs = st.map itD ∧ ((3 ≤ R ∧ R < 10 ^ 100) ∧ Cano st ∧ BdS k R st ∧ st.length ≤ 100000 ∧ k ≤ 1000) ∧ retL Q ((partsI R F st).map partD)
  | _, _ => False
def g_spread : Gs := fun cs M Q E => match cs, M with
  | [.d (.tuple [.int R, .int S]), .d (.int F), .d (.list xs), .d (.int few), .d (.int many)], [] => ∃ (st : List Item) (k : Nat), xs = st.map itD ∧ ((3 ≤ R ∧ R < 10 ^ 100) ∧ Cano st ∧ BdS k R st ∧ st.length ≤ 100000 ∧ k ≤ 1000 ∧ 0 ≤ few ∧ few ≤ many) ∧
    ∀ st' : List Item, Cano st' → (∀ u, memS st' u ↔ setW R F few many (memS st) u) → st'.length ≤ st.length + 2 * k → BdS (k + 1) R st' → retL Q (st'.map itD)
  | _, _ => False
/-! ### tick by tick -/
def fldQ (S : Int) : List Item → Int → Int
  | [], _ => 0
  | (a, n) :: r, t => (if a ≤ t then n * S else 0) + fldQ S r t
def reachT (R S lo hi : Int) (ds : List Item) (P : Int → Prop) : Nat → Int → Prop
  | 0 => P
  | t + 1 => setW R (fldQ S ds t) lo hi (reachT R S lo hi ds P t)
theorem fldQ_same {S : Int} {t t' : Int} (htt : t ≤ t') : ∀ {ds : List Item}, (∀ x ∈ ds, ¬ (t < x.1 ∧ x.1 ≤ t')) → fldQ S ds t' = fldQ S ds t
  | [], _ => rfl
  | (a, n) :: r, h => by
    have h0 := h (a, n) List.mem_cons_self
    dsimp only at h0
    unfold fldQ
    rw [fldQ_same htt fun x hx => h x (List.mem_cons_of_mem _ hx)]
    by_cases c : a ≤ t
    · rw [if_pos c, if_pos (by omega)]
    · rw [if_neg c, if_neg (by omega)]
theorem hop {R S lo hi : Int} {ds : List Item} {P : Int → Prop} (h : 0 < R) (l0 : 0 ≤ lo) (lh : lo ≤ hi) {t : Nat} : ∀ {k : Nat}, (∀ x ∈ ds, ¬ ((t : Int) < x.1 ∧ x.1 < t + k)) → ∀ u, reachT R S lo hi ds P (t + k) u ↔ setW R (fldQ S ds t) (lo * k) (hi * k) (reachT R S lo hi ds P t) u
  | 0, _, u => by
    rw [Int.natCast_zero, Int.mul_zero, Int.mul_zero, setW_zero]
    rfl
  | k + 1, hx, u => by
    have hx' : ∀ x ∈ ds, ¬ ((t : Int) < x.1 ∧ x.1 ≤ ((t + k : Nat) : Int)) := fun x hm => by have := hx x hm; omega
    have e1 : ∀ z : Int, z * ((k + 1 : Nat) : Int) = z * k + z := fun z => by rw [Int.natCast_add, Int.mul_add]; omega
    rw [e1, e1, ← setW_add h (Int.mul_nonneg l0 (by omega)) (Int.mul_le_mul_of_nonneg_right lh (by omega)) l0 lh]
    show setW R (fldQ S ds ((t + k : Nat) : Int)) lo hi (reachT R S lo hi ds P (t + k)) u ↔ _
    rw [fldQ_same (by omega) hx']
    exact setW_congr (hop h l0 lh fun x hm => by have := hx x hm; omega) u
def fsumQ (S : Int) : List Item → Int
  | [] => 0
  | (_, n) :: r => n * S + fsumQ S r
theorem fsum_snoc {S a n : Int} : ∀ {xs : List Item}, fsumQ S (xs ++ [(a, n)]) = fsumQ S xs + n * S
  | [] => by
    show n * S + 0 = 0 + n * S
    omega
  | (b, m) :: r => by
    show m * S + fsumQ S (r ++ [(a, n)]) = m * S + fsumQ S r + n * S
    rw [fsum_snoc]
    omega
theorem fld_split {S t : Int} {ys : List Item} (hy : ∀ x ∈ ys, t < x.1) : ∀ {xs : List Item}, (∀ x ∈ xs, x.1 ≤ t) → fldQ S (xs ++ ys) t = fsumQ S xs
  | [], _ => by
    induction ys with
    | nil => rfl
    | cons y r ih =>
      obtain ⟨a, n⟩ := y
      have h0 := hy (a, n) List.mem_cons_self
      show (if a ≤ t then n * S else 0) + fldQ S r t = 0
      rw [if_neg (by dsimp only at h0; omega)]
      have := ih fun x hx => hy x (List.mem_cons_of_mem _ hx)
      rw [List.nil_append] at this
      rw [this]
      rfl
  | (a, n) :: r, h => by
    show (if a ≤ t then n * S else 0) + fldQ S (r ++ ys) t = n * S + fsumQ S r
    rw [if_pos (h (a, n) List.mem_cons_self), fld_split hy fun x hx => h x (List.mem_cons_of_mem _ hx)]
theorem bd_mono {R : Int} {st : List Item} {k k' : Nat} (h : 0 < R) (hk : k ≤ k') (hb : BdS k R st) : BdS k' R st := fun s hs => by
  have := hb s hs
  have : (k : Int) * R ≤ k' * R := Int.mul_le_mul_of_nonneg_right (by omega) (by omega)
  omega
/-- from one item to the next -/
theorem hop_to {R S lo hi now a : Int} {ds : List Item} {P : Int → Prop} {i : Nat} (h : 0 < R) (l0 : 0 ≤ lo) (lh : lo ≤ hi) (n0 : 0 ≤ now) (na : now ≤ a) (hpast : ∀ x ∈ ds.take i, x.1 ≤ now) (hnext : ∀ x ∈ ds.drop i, a ≤ x.1) (u : Int) :
    reachT R S lo hi ds P a.toNat u ↔ setW R (fsumQ S (ds.take i)) (lo * (a - now)) (hi * (a - now)) (reachT R S lo hi ds P now.toNat) u := by
  by_cases e : a = now
  · subst e
    rw [Int.sub_self, Int.mul_zero, Int.mul_zero, setW_zero]
  · have ef : fldQ S ds now = fsumQ S (ds.take i) := by
      have := fld_split (S := S) (t := now) (ys := ds.drop i) (fun x hx => by have := hnext x hx; omega) hpast
      rwa [List.take_append_drop] at this
    have := hop (R := R) (S := S) (ds := ds) (P := P) h l0 lh (t := now.toNat) (k := (a - now).toNat) (fun x hx => by
      rw [← List.take_append_drop i ds] at hx
      rcases List.mem_append.mp hx with hx | hx
      · have := hpast x hx; omega
      · have := hnext x hx; omega) u
    rw [show now.toNat + (a - now).toNat = a.toNat by omega, Int.toNat_of_nonneg n0, Int.toNat_of_nonneg (by omega), ef] at this
    exact this
/-- all that is asked of a call about places -/
def PlcOk (R S lo hi l g t : Int) (ds : List Item) : Prop := (WhI R S ∧ R < 10 ^ 100) ∧ (0 ≤ lo ∧ lo ≤ hi ∧ Sm hi) ∧ (BgI R l ∧ BgI R g ∧ l ≤ g) ∧ (ds.length ≤ 60 ∧ Asc ds 0 ∧ ∀ x ∈ ds, Sm x.1 ∧ Sm x.2) ∧ 0 ≤ t ∧ Sm t
/-- the places at a tick, as stretches -/
def PlcSt (R S lo hi l g t : Int) (ds st : List Item) : Prop := Cano st ∧ (∀ u, memS st u ↔ reachT R S lo hi ds (fun p => l ≤ p ∧ p ≤ g) t.toNat u) ∧ st.length ≤ 8000 ∧ BdS 70 R st
def g_spread_at : Gs := fun cs M Q E => match cs, M with
  | [.d (.tuple [.int R, .int S]), .d (.int lo), .d (.int hi), .d (.tuple [.int l, .int g]), .d (.list xs), .d (.int t)], [] => ∃ ds : List Item, xs = ds.map itD ∧ PlcOk R S lo hi l g t ds ∧ ∀ st : List Item, PlcSt R S lo hi l g t ds st → retT Q (.int (fldQ S ds t)) (st.map itD)
  | _, _ => False
def g_places : Gs := fun cs M Q E => match cs, M with
  | [.d (.tuple [.int R, .int S]), .d (.int lo), .d (.int hi), .d (.tuple [.int l, .int g]), .d (.list xs), .d (.int t)], [] => ∃ ds : List Item, xs = ds.map itD ∧ PlcOk R S lo hi l g t ds ∧ ∀ st : List Item, PlcSt R S lo hi l g t ds st → retL Q (st.map itD)
  | _, _ => False
end Lw

set_option Elab.async false
set_option linter.all false
set_option maxRecDepth 100000
set_option maxHeartbeats 4000000
namespace Lw
open PySem PySem.Spec PyProof.Rows L2 Kt
theorem w_neE {M : Mem} {Q : Qx} {c d : Cell} {xs : List PyData} {b : Bool} (eb : xs.isEmpty = b) (e : Sees M c (.list xs)) (e' : Sees M d (.list [])) (f : Fl 40 (.list xs)) (h : Q (.d (.bool (!b))) M) : pNe c d M Q :=
  w_neG (sees_dS e) (sees_dS e') (w_eqL (Fl.sh f (.lst (n := 0) (fun x hx => by cases hx)) (by decide) (by decide)) (eqvAll_nil.trans eb) h)
/-! ### a law's own motion, field, sets of places -/
def g__law_rest : Gs := fun cs M Q E => match cs, M with
  | [.d (.tuple [.int R, .int S]), .d (.int F), .d (.int p)], [] => (0 < R ∧ R < 10 ^ 100) ∧ retD Q (.int (restI R F p))
  | _, _ => False
def g__law_moved : Gs := fun cs M Q E => match cs, M with
  | [.d (.tuple [.int R, .int S]), .d (.int F), .d (.int p), .d (.int w)], [] => ((0 < R ∧ R < 10 ^ 100) ∧ 0 ≤ w) ∧ retD Q (.int (movedI R F p w))
  | _, _ => False
/-- a drive whose turns may be added and multiplied -/
def TurnsOk (ds : List Item) : Prop := ds.length ≤ 1000 ∧ ∀ x ∈ ds, -(10 ^ 100) ≤ x.2 ∧ x.2 ≤ 10 ^ 100
def g__law_field : Gs := fun cs M Q E => match cs, M with
  | [.d (.tuple [.int R, .int S]), .d (.list xs), .d (.int t)], [] => ∃ ds : List Item, xs = ds.map itD ∧ (TurnsOk ds ∧ Sm S) ∧ retD Q (.int (fldQ S ds t))
  | _, _ => False
theorem fld_past {S t : Int} : ∀ {ds : List Item}, S * ((pastI t ds).map (·.2)).sum = fldQ S ds t
  | [] => by
    show S * 0 = 0
    rw [Int.mul_zero]
  | (a, n) :: r => by
    have ih := @fld_past S t r
    show S * ((pastI t ((a, n) :: r)).map (·.2)).sum = (if a ≤ t then n * S else 0) + fldQ S r t
    have e : pastI t ((a, n) :: r) = if a ≤ t then (a, n) :: pastI t r else pastI t r := by
      unfold pastI
      rw [List.filter_cons]
      by_cases h : a ≤ t
      · rw [if_pos h, if_pos (by simpa using h)]
      · rw [if_neg h, if_neg (by simpa using h)]
    rw [e]
    by_cases h : a ≤ t
    · rw [if_pos h, if_pos h, List.map_cons, List.sum_cons, Int.mul_add, ih, Int.mul_comm S]
    · rw [if_neg h, if_neg h, ih, Int.zero_add]
theorem sum_bd {B : Int} : ∀ {ns : List Int}, (∀ n ∈ ns, -B ≤ n ∧ n ≤ B) → -(B * ns.length) ≤ ns.sum ∧ ns.sum ≤ B * ns.length
  | [], _ => by simp
  | n :: r, h => by
    have h0 := h n List.mem_cons_self
    have ih := sum_bd fun x hx => h x (List.mem_cons_of_mem _ hx)
    rw [List.sum_cons, List.length_cons]
    have : B * ((r.length + 1 : Nat) : Int) = B * (r.length : Int) + B := by rw [Int.natCast_add, Int.mul_add]; omega
    omega
theorem ints_getL {lo : Int} {n i : Nat} {x : PyData} (h : (Kt.intsFrom lo n)[i]? = some x) : i < n ∧ x = .int (lo + (i : Int)) := by
  have hi := (List.getElem?_eq_some_iff.mp h).1
  rw [ints_len] at hi
  unfold Kt.intsFrom at h
  rw [List.getElem?_map, List.getElem?_range hi] at h
  cases h
  exact ⟨hi, rfl⟩
theorem dPut_len {i : Int} {d : PyData} : ∀ {ps : List (Int × PyData)}, (dPut ps i d).length ≤ ps.length + 1
  | [] => Nat.le_refl _
  | (k, x) :: r => by
    unfold dPut
    split
    · exact Nat.le_succ _
    · rw [List.length_cons, List.length_cons]
      exact Nat.succ_le_succ dPut_len
/-- one more tick of all places -/
def g__law_next : Gs := fun cs M Q E => match cs, M with
  | [.d (.tuple [.int R, .int S]), .d (.int F), .d (.list xs), .d (.int lo), .d (.int hi)], [] => ∃ ms : List Int, xs = ms.map .int ∧ ((0 < R ∧ R < 10 ^ 100) ∧ ms.length ≤ 20000 ∧ 0 ≤ lo ∧ lo ≤ hi ∧ hi ≤ lo + 100 ∧ hi ≤ 10 ^ 9) ∧
    ∀ ys : List Int, ys.Pairwise (· < ·) → (∀ u, u ∈ ys ↔ setW R F lo hi (· ∈ ms) u) → retL Q (ys.map .int)
  | _, _ => False
/-- ascending numbers as stretches -/
def g__law_stretches : Gs := fun cs M Q E => match cs, M with
  | [.d (.list xs)], [] => ∃ ys : List Int, xs = ys.map .int ∧ (ys.Pairwise (· < ·) ∧ ys.length ≤ 100000) ∧ ∀ st : List Item, Cano st → (∀ u, memS st u ↔ u ∈ ys) → st.length ≤ ys.length → retL Q (st.map itD)
  | _, _ => False
theorem strict_of {ys : List Int} (h : ys.Pairwise (· ≤ ·)) (nd : ys.Nodup) : ys.Pairwise (· < ·) := by
  induction ys with
  | nil => exact .nil
  | cons y r ih =>
    obtain ⟨h1, h2⟩ := List.pairwise_cons.mp h
    obtain ⟨n1, n2⟩ := List.nodup_cons.mp nd
    refine List.pairwise_cons.mpr ⟨fun z hz => ?_, ih h2 n2⟩
    have := h1 z hz
    have : y ≠ z := fun e => n1 (e ▸ hz)
    omega
/-- strictly ascending lists of numbers with the same members are the same -/
theorem strict_uniq : ∀ {x y : List Int}, x.Pairwise (· < ·) → y.Pairwise (· < ·) → (∀ u, u ∈ x ↔ u ∈ y) → x = y
  | [], [], _, _, _ => rfl
  | [], b :: r, _, _, e => absurd ((e b).mpr List.mem_cons_self) (by simp)
  | a :: r, [], _, _, e => absurd ((e a).mp List.mem_cons_self) (by simp)
  | a :: r, b :: t, hx, hy, e => by
    obtain ⟨x1, x2⟩ := List.pairwise_cons.mp hx
    obtain ⟨y1, y2⟩ := List.pairwise_cons.mp hy
    have ab : a = b := by
      rcases List.mem_cons.mp ((e a).mp List.mem_cons_self) with h | h
      · exact h
      · rcases List.mem_cons.mp ((e b).mpr List.mem_cons_self) with h' | h'
        · exact h'.symm
        · have := y1 a h
          have := x1 b h'
          omega
    subst ab
    rw [strict_uniq x2 y2 fun u => ⟨fun h => (List.mem_cons.mp ((e u).mp (List.mem_cons_of_mem _ h))).resolve_left fun z => by have := x1 u h; omega, fun h => (List.mem_cons.mp ((e u).mpr (List.mem_cons_of_mem _ h))).resolve_left fun z => by have := y1 u h; omega⟩]
theorem strict_len : ∀ {ys : List Int} {lo hi : Int}, ys.Pairwise (· < ·) → (∀ u ∈ ys, lo ≤ u ∧ u ≤ hi) → lo ≤ hi + 1 → (ys.length : Int) ≤ hi - lo + 1
  | [], lo, hi, _, _, h => by
    show ((0 : Nat) : Int) ≤ _
    omega
  | y :: r, lo, hi, h, hb, _ => by
    obtain ⟨h1, h2⟩ := List.pairwise_cons.mp h
    have b := hb y List.mem_cons_self
    have := strict_len (lo := y + 1) (hi := hi) h2 (fun u hu => ⟨by have := h1 u hu; omega, (hb u (List.mem_cons_of_mem _ hu)).2⟩) (by omega)
    rw [List.length_cons]
    omega
end Lw

set_option Elab.async false
set_option linter.all false
set_option maxRecDepth 100000
set_option maxHeartbeats 4000000
namespace Lw
open PySem PySem.Spec PyProof.Rows L2 Kt
def turnsAt (t : Int) (ds : List Item) : List Int := (ds.filter fun x => decide (x.1 = t)).map (·.2)
theorem turns_len {t : Int} {ds : List Item} : (turnsAt t ds).length ≤ ds.length := by
  unfold turnsAt
  rw [List.length_map]
  exact List.length_filter_le _ _
theorem turns_mem {t n : Int} {ds : List Item} (h : n ∈ turnsAt t ds) : ∃ x ∈ ds, x.2 = n := by
  unfold turnsAt at h
  obtain ⟨x, hx, rfl⟩ := List.mem_map.mp h
  exact ⟨x, (List.mem_filter.mp hx).1, rfl⟩
/-! ### turns added up, tick by tick -/
def SumOf (ds rs : List Item) : Prop := rs.Pairwise (fun x y => x.1 < y.1) ∧ ∀ x : Item, x ∈ rs ↔ x.2 ≠ 0 ∧ x.2 = (turnsAt x.1 ds).sum
theorem pw_uniq : ∀ {xs ys : List Item}, xs.Pairwise (fun x y => x.1 < y.1) → ys.Pairwise (fun x y => x.1 < y.1) → (∀ x, x ∈ xs ↔ x ∈ ys) → xs = ys
  | [], [], _, _, _ => rfl
  | [], y :: ys, _, _, h => by
    have := (h y).mpr List.mem_cons_self
    cases this
  | x :: xs, [], _, _, h => by
    have := (h x).mp List.mem_cons_self
    cases this
  | x :: xs, y :: ys, px, py, h => by
    obtain ⟨p1, p2⟩ := List.pairwise_cons.mp px
    obtain ⟨q1, q2⟩ := List.pairwise_cons.mp py
    have e : x = y := by
      rcases List.mem_cons.mp ((h x).mp List.mem_cons_self) with e | h1
      · exact e
      · rcases List.mem_cons.mp ((h y).mpr List.mem_cons_self) with e | h2
        · exact e.symm
        · have := q1 x h1
          have := p1 y h2
          omega
    subst e
    rw [pw_uniq p2 q2 fun z => ?_]
    constructor
    · intro hz
      rcases List.mem_cons.mp ((h z).mp (List.mem_cons_of_mem _ hz)) with e | h1
      · subst e
        have := p1 z hz
        omega
      · exact h1
    · intro hz
      rcases List.mem_cons.mp ((h z).mpr (List.mem_cons_of_mem _ hz)) with e | h1
      · subst e
        have := q1 z hz
        omega
      · exact h1
theorem sum_uniq {ds rs rs' : List Item} (h : SumOf ds rs) (h' : SumOf ds rs') : rs = rs' := pw_uniq h.1 h'.1 fun x => (h.2 x).trans (h'.2 x).symm
theorem turnsAt_snoc {t : Int} {ds : List Item} {x : Item} : (turnsAt t (ds ++ [x])).sum = (turnsAt t ds).sum + if x.1 = t then x.2 else 0 := by
  unfold turnsAt
  rw [List.filter_append, List.map_append, List.sum_append]
  by_cases h : x.1 = t
  · simp [List.filter_cons, h]
  · simp [List.filter_cons, h]
theorem dG_put {i j : Int} {d : PyData} : ∀ {ps : List (Int × PyData)}, dG (dPut ps i d) j = if i = j then some d else dG ps j
  | [] => by
    show (if i = j then some d else none) = _
    rfl
  | (k, e) :: r => by
    unfold dPut
    by_cases h : k = i
    · rw [if_pos h]
      show (if k = j then some d else dG r j) = if i = j then some d else (if k = j then some e else dG r j)
      by_cases hj : i = j
      · rw [if_pos hj, if_pos (h.trans hj)]
      · rw [if_neg hj, if_neg (by omega), if_neg (by omega)]
    · rw [if_neg h]
      show (if k = j then some e else dG (dPut r i d) j) = if i = j then some d else (if k = j then some e else dG r j)
      rw [dG_put]
      by_cases hj : k = j
      · rw [if_pos hj, if_pos hj, if_neg (by omega)]
      · rw [if_neg hj, if_neg hj]
theorem dG_out {i : Int} : ∀ {ps : List (Int × PyData)}, dG ps i = none ↔ i ∉ ps.map (·.1)
  | [] => ⟨fun _ => by simp, fun _ => rfl⟩
  | (k, d) :: r => by
    unfold dG
    by_cases e : k = i
    · rw [if_pos e]
      refine ⟨fun z => (by cases z), fun z => absurd ?_ z⟩
      rw [List.map_cons, ← e]
      exact List.mem_cons_self
    · rw [if_neg e, dG_out]
      rw [List.map_cons, List.mem_cons]
      exact ⟨fun z y => y.elim (fun y => e y.symm) z, fun z y => z (.inr y)⟩
def g_summed : Gs := fun cs M Q E => match cs, M with
  | [.d (.list xs)], [] => ∃ ds : List Item, xs = ds.map itD ∧ ds.length ≤ 100000 ∧ ∀ rs : List Item, SumOf ds rs → retL Q (rs.map itD)
  | _, _ => False
/-- a drive, as the checks take it -/
def DrvOk (ds : List Item) : Prop := ds.length ≤ 60 ∧ Asc ds 0
def g_joined : Gs := fun cs M Q E => match cs, M with
  | [.d (.list xs), .d (.list ys)], [] => ∃ ds es : List Item, xs = ds.map itD ∧ ys = es.map itD ∧ (DrvOk ds ∧ DrvOk es ∧ ∀ rs, SumOf (ds ++ es) rs → rs.length ≤ 60) ∧ ∀ rs : List Item, SumOf (ds ++ es) rs → retL Q (rs.map itD)
  | _, _ => False
def g_delayed : Gs := fun cs M Q E => match cs, M with
  | [.d (.list xs), .d (.int b)], [] => ∃ ds : List Item, xs = ds.map itD ∧ (DrvOk ds ∧ 0 ≤ b) ∧ retL Q ((ds.map fun x => (x.1 + b, x.2)).map itD)
  | _, _ => False
def g_slowed : Gs := fun cs M Q E => match cs, M with
  | [.d (.list xs), .d (.int b)], [] => ∃ ds : List Item, xs = ds.map itD ∧ (DrvOk ds ∧ 1 ≤ b ∧ Sm b ∧ ∀ x ∈ ds, Sm x.1) ∧ retL Q ((ds.map fun x => (x.1 * b, x.2)).map itD)
  | _, _ => False
def g_turned_back : Gs := fun cs M Q E => match cs, M with
  | [.d (.list xs)], [] => ∃ ds : List Item, xs = ds.map itD ∧ DrvOk ds ∧ retL Q ((ds.map fun x => (x.1, -x.2)).map itD)
  | _, _ => False
/-- a plain function over items -/
def onT (f : Item → Item) : PyData → PyData
  | .tuple [.int a, .int b] => itD (f (a, b))
  | d => d
theorem onT_map {f : Item → Item} {ds : List Item} : (ds.map itD).map (onT f) = (ds.map f).map itD := by
  rw [List.map_map, List.map_map]
  rfl
theorem turns_none {t : Int} {ds : List Item} (h : t ∉ ds.map (·.1)) : turnsAt t ds = [] := by
  unfold turnsAt
  rw [List.filter_eq_nil_iff.mpr fun x hx => ?_]
  · rfl
  · intro e
    exact h (List.mem_map.mpr ⟨x, hx, of_decide_eq_true e⟩)
def keepS (ds : List Item) : PyData → Bool
  | .int t => decide ((turnsAt t ds).sum ≠ 0)
  | _ => false
def sumD (ds : List Item) : PyData → PyData
  | .int t => itD (t, (turnsAt t ds).sum)
  | d => d
def sumsI (ds : List Item) (ys : List Int) : List Item := (ys.filter fun t => decide ((turnsAt t ds).sum ≠ 0)).map fun t => (t, (turnsAt t ds).sum)
theorem sums_map {ds : List Item} : ∀ {ys : List Int}, ((ys.map PyData.int).filter (keepS ds)).map (sumD ds) = (sumsI ds ys).map itD
  | [] => rfl
  | y :: r => by
    have ih := @sums_map ds r
    unfold sumsI at ih ⊢
    rw [List.map_cons, List.filter_cons, List.filter_cons]
    show (List.map _ (if decide ((turnsAt y ds).sum ≠ 0) = true then _ else _)) = _
    by_cases h : decide ((turnsAt y ds).sum ≠ 0) = true
    · rw [if_pos h, if_pos h, List.map_cons, List.map_cons, List.map_cons, ih]
      rfl
    · rw [if_neg h, if_neg h, ih]
theorem sums_of {ds : List Item} {ys : List Int} (pw : ys.Pairwise (· < ·)) (h : ∀ t, t ∈ ys ↔ t ∈ ds.map (·.1)) : SumOf ds (sumsI ds ys) := by
  unfold sumsI
  refine ⟨?_, fun x => ?_⟩
  · rw [List.pairwise_map]
    exact (pw.sublist List.filter_sublist).imp fun h => h
  · rw [List.mem_map]
    constructor
    · rintro ⟨t, ht, rfl⟩
      exact ⟨of_decide_eq_true (List.mem_filter.mp ht).2, rfl⟩
    · rintro ⟨h1, h2⟩
      obtain ⟨t, n⟩ := x
      dsimp only at h1 h2
      refine ⟨t, List.mem_filter.mpr ⟨(h t).mpr ?_, decide_eq_true (by rw [← h2]; exact h1)⟩, by rw [h2]⟩
      by_cases c : t ∈ ds.map (·.1)
      · exact c
      · rw [turns_none c] at h2
        exact absurd h2 h1
end Lw

set_option Elab.async false
set_option linter.all false
set_option maxRecDepth 100000
set_option maxHeartbeats 4000000
namespace Lw
open PySem PySem.Spec PyProof.Rows L2 Kt
/-! ### slack: rows of items that are too far together, late lists -/
/-- how far the items first .. last are over the fore part -/
def overI (F S : Int) (ds : List Item) (i j : Nat) : Int := S * (((ds.drop i).take (j + 1 - i)).map (·.2)).sum - F
def rowT (x : Int × Int × Int) : PyData := .tuple [.int x.1, .int x.2.1, .int x.2.2]
def rowsAt (F S : Int) (ds : List Item) (i : Nat) (n : Nat) : List (Int × Int × Int) := ((List.range' i n).filter fun (j : Nat) => decide (0 < overI F S ds i j)).map fun (j : Nat) => ((i : Int), (j : Int), overI F S ds i j)
def rowsI (F S : Int) (ds : List Item) : List (Int × Int × Int) := (List.range ds.length).flatMap fun i => rowsAt F S ds i (ds.length - i)
theorem over_next {F S : Int} {ds : List Item} {i j : Nat} {x : Item} (h : ds[i + j]? = some x) : S * (((ds.drop i).take (j + 1)).map (·.2)).sum - F = (S * (((ds.drop i).take j).map (·.2)).sum - F) + x.2 * S := by
  rw [take_succ_get (show (ds.drop i)[j]? = some x by rw [List.getElem?_drop]; exact h), List.map_append, List.sum_append]
  show S * (_ + (x.2 + 0)) - F = _
  rw [Int.mul_add, Int.add_zero, Int.mul_comm S x.2]
  omega
theorem rows_next {F S : Int} {ds : List Item} {i j : Nat} : rowsAt F S ds i (j + 1) = rowsAt F S ds i j ++ if 0 < overI F S ds i (i + j) then [((i : Int), ((i + j : Nat) : Int), overI F S ds i (i + j))] else [] := by
  unfold rowsAt
  rw [List.range'_concat, List.filter_append, List.map_append]
  congr 1
  rw [Nat.one_mul]
  by_cases h : 0 < overI F S ds i (i + j)
  · rw [if_pos h]
    simp [List.filter_cons, h]
  · rw [if_neg h]
    simp [List.filter_cons, h]
theorem rows_at_len {F S : Int} {ds : List Item} {i j : Nat} : (rowsAt F S ds i j).length ≤ j := by
  unfold rowsAt
  rw [List.length_map]
  have := List.length_filter_le (fun (k : Nat) => decide (0 < overI F S ds i k)) (List.range' i j)
  rw [List.length_range'] at this
  exact this
def g_rows_over : Gs := fun cs M Q E => match cs, M with
  | [.d (.tuple [.int R, .int S]), .d (.list xs)], [] => ∃ ds : List Item, xs = ds.map itD ∧ (WhI R S ∧ R ≤ 10 ^ 31 ∧ ds.length ≤ 60 ∧ ∀ x ∈ ds, -(10 ^ 31) ≤ x.2 ∧ x.2 ≤ 10 ^ 31) ∧ retL Q ((rowsI (R / 2) S ds).map rowT)
  | _, _ => False
def changeI (u : Int) (ta tb o : Int) : Int := max 0 ((tb - ta - (o - 1) / u + 1) / 2)
def g_least_change : Gs := fun cs M Q E => match cs, M with
  | [.d (.int u), .d (.list xs), .d (.tuple [.int i, .int j, .int o])], [] => ∃ (ds : List Item) (a b : Nat) (x y : Item), xs = ds.map itD ∧ (i = a ∧ j = b ∧ ds[a]? = some x ∧ ds[b]? = some y ∧ (1 ≤ u ∧ u ≤ 10 ^ 40 ∧ 1 ≤ o ∧ o ≤ 10 ^ 70) ∧ (0 ≤ x.1 ∧ x.1 ≤ 10 ^ 40) ∧ 0 ≤ y.1 ∧ y.1 ≤ 10 ^ 40) ∧ retD Q (.int (changeI u x.1 y.1 o))
  | _, _ => False

def tkU (ds : List Item) (i : Int) : Int := (ds.getD i.toNat (0, 0)).1
/-- by how many ticks the items of a row must come nearer until there is a slip -/
def chU (u : Int) (ds : List Item) (row : Int × Int × Int) : Int := if u = 0 then 0 else changeI u (tkU ds row.1) (tkU ds row.2.1) row.2.2
def MinU (F S u : Int) (ds : List Item) (m : Int) : Prop := ∃ row ∈ rowsI F S ds, chU u ds row = m ∧ ∀ x ∈ rowsI F S ds, m ≤ chU u ds x
/-- items with turns ahead, at ticks that ascend -/
def UpOk (ds : List Item) : Prop := ds.length ≤ 60 ∧ Asc ds 0 ∧ ∀ x ∈ ds, (0 ≤ x.1 ∧ x.1 ≤ 10 ^ 40) ∧ 1 ≤ x.2 ∧ x.2 ≤ 10 ^ 31
theorem asc_le : ∀ {ds : List Item} {l : Int}, Asc ds l → ∀ x ∈ ds, l ≤ x.1
  | [], _, _, x, hx => by cases hx
  | (t, n) :: r, l, h, x, hx => by
    obtain ⟨h1, h2, h3⟩ := h
    rcases List.mem_cons.mp hx with rfl | hx
    · exact h1
    · have := asc_le h3 x hx
      omega
/-- whether the hindmost wheel has a slip, by its lag -/
def slipL (F S u : Int) : List Item → Int → Int → Bool
  | [], _, _ => false
  | (t, n) :: r, now, lag => decide (F < max 0 (lag - u * (t - now)) + n * S) || slipL F S u r t (max 0 (lag - u * (t - now)) + n * S)
/-- whether a lag of which no part is lost is too far at some item -/
def hitP (F S u : Int) : List Item → Int → Int → Prop
  | [], _, _ => False
  | (t, n) :: r, now, lag => F < lag - u * (t - now) + n * S ∨ hitP F S u r t (lag - u * (t - now) + n * S)
def anyP (F S u : Int) : List Item → Prop
  | [] => False
  | (t, n) :: r => hitP F S u ((t, n) :: r) t 0 ∨ anyP F S u r
theorem hit_mono {F S u : Int} : ∀ {ds : List Item} {now a b : Int}, a ≤ b → hitP F S u ds now a → hitP F S u ds now b
  | [], _, _, _, _, h => h
  | (t, n) :: r, now, a, b, hab, h => by
    rcases h with h | h
    · exact .inl (by omega)
    · exact .inr (hit_mono (by omega) h)
theorem slip_any {F S u : Int} : ∀ {ds : List Item} {now lag : Int}, slipL F S u ds now lag = true ↔ hitP F S u ds now lag ∨ anyP F S u ds
  | [], _, _ => ⟨fun h => (by cases h), fun h => (by rcases h with h | h <;> cases h)⟩
  | (t, n) :: r, now, lag => by
    have ih := @slip_any F S u r t (max 0 (lag - u * (t - now)) + n * S)
    have e0 : (0 : Int) - u * (t - t) = 0 := by rw [Int.sub_self, Int.mul_zero]; rfl
    unfold slipL
    rw [Bool.or_eq_true, decide_eq_true_eq, ih]
    show _ ↔ (F < lag - u * (t - now) + n * S ∨ hitP F S u r t (lag - u * (t - now) + n * S)) ∨ ((F < 0 - u * (t - t) + n * S ∨ hitP F S u r t (0 - u * (t - t) + n * S)) ∨ anyP F S u r)
    rw [e0]
    generalize lag - u * (t - now) = x
    by_cases hx : 0 ≤ x
    · rw [Int.max_eq_right hx]
      constructor
      · rintro (h | h | h)
        · exact .inl (.inl h)
        · exact .inl (.inr h)
        · exact .inr (.inr h)
      · rintro ((h | h) | (h | h) | h)
        · exact .inl h
        · exact .inr (.inl h)
        · exact .inl (by omega)
        · exact .inr (.inl (hit_mono (by omega) h))
        · exact .inr (.inr h)
    · rw [Int.max_eq_left (by omega)]
      constructor
      · rintro (h | h | h)
        · exact .inr (.inl (.inl h))
        · exact .inr (.inl (.inr h))
        · exact .inr (.inr h)
      · rintro ((h | h) | (h | h) | h)
        · exact .inl (by omega)
        · exact .inr (.inl (hit_mono (by omega) h))
        · exact .inl h
        · exact .inr (.inl h)
        · exact .inr (.inr h)
theorem hit_ix {F S u : Int} : ∀ {ds : List Item} {now lag : Int}, hitP F S u ds now lag ↔ ∃ (j : Nat) (x : Item), ds[j]? = some x ∧ F < lag - u * (x.1 - now) + S * ((ds.take (j + 1)).map (·.2)).sum
  | [], _, _ => ⟨fun h => h.elim, fun ⟨j, x, h, _⟩ => by cases h⟩
  | (t, n) :: r, now, lag => by
    have ih := @hit_ix F S u r t (lag - u * (t - now) + n * S)
    show (F < lag - u * (t - now) + n * S ∨ hitP F S u r t (lag - u * (t - now) + n * S)) ↔ _
    rw [ih]
    have key : ∀ (x s : Int), lag - u * (t - now) + n * S - u * (x - t) + S * s = lag - u * (x - now) + S * (n + s) := fun x s => by
      rw [show x - now = (x - t) + (t - now) by omega, Int.mul_add, Int.mul_add, Int.mul_comm n S]
      omega
    constructor
    · rintro (h | ⟨j, x, hx, h⟩)
      · refine ⟨0, (t, n), rfl, ?_⟩
        show F < lag - u * (t - now) + S * (n + 0)
        rw [Int.add_zero, Int.mul_comm S n]
        exact h
      · refine ⟨j + 1, x, hx, ?_⟩
        rw [key] at h
        exact h
    · rintro ⟨j, x, hx, h⟩
      cases j with
      | zero =>
        cases hx
        left
        have h' : F < lag - u * (t - now) + S * (n + 0) := h
        rw [Int.add_zero, Int.mul_comm S n] at h'
        exact h'
      | succ j =>
        refine .inr ⟨j, x, hx, ?_⟩
        rw [key]
        exact h
def SlipEx (F S u : Int) (ds : List Item) : Prop := ∃ (i j : Nat) (x y : Item), i ≤ j ∧ ds[i]? = some x ∧ ds[j]? = some y ∧ u * (y.1 - x.1) < overI F S ds i j
theorem over_cons {F S : Int} {x : Item} {ds : List Item} {i j : Nat} : overI F S (x :: ds) (i + 1) (j + 1) = overI F S ds i j := by
  unfold overI
  rw [List.drop_succ_cons, show j + 1 + 1 - (i + 1) = j + 1 - i by omega]
theorem any_ix {F S u : Int} : ∀ {ds : List Item}, anyP F S u ds ↔ SlipEx F S u ds
  | [] => ⟨fun h => h.elim, fun ⟨i, j, x, y, _, h, _⟩ => by cases h⟩
  | (t, n) :: r => by
    have ih := @any_ix F S u r
    show (hitP F S u ((t, n) :: r) t 0 ∨ anyP F S u r) ↔ _
    rw [ih, hit_ix]
    constructor
    · rintro (⟨j, y, hy, h⟩ | ⟨i, j, x, y, hij, hx, hy, h⟩)
      · refine ⟨0, j, (t, n), y, Nat.zero_le _, rfl, hy, ?_⟩
        unfold overI
        rw [List.drop_zero, Nat.sub_zero]
        show u * (y.1 - t) < _
        omega
      · exact ⟨i + 1, j + 1, x, y, by omega, hx, hy, by rw [over_cons]; exact h⟩
    · rintro ⟨i, j, x, y, hij, hx, hy, h⟩
      cases i with
      | zero =>
        cases hx
        refine .inl ⟨j, y, hy, ?_⟩
        unfold overI at h
        rw [List.drop_zero, Nat.sub_zero] at h
        dsimp only at h ⊢
        omega
      | succ i =>
        obtain ⟨j, rfl⟩ : ∃ k, j = k + 1 := ⟨j - 1, by omega⟩
        rw [over_cons] at h
        exact .inr ⟨i, j, x, y, by omega, hx, hy, h⟩
theorem slip_ex {F S u : Int} {ds : List Item} (hu : 0 ≤ u) (h0 : ∀ x ∈ ds, 0 ≤ x.1) : slipL F S u ds 0 0 = true ↔ SlipEx F S u ds := by
  rw [slip_any, any_ix]
  refine ⟨fun h => ?_, .inr⟩
  rcases h with h | h
  · rw [← any_ix]
    cases ds with
    | nil => exact h
    | cons x r =>
      obtain ⟨t, n⟩ := x
      have ht : 0 ≤ t := h0 (t, n) List.mem_cons_self
      have hm : 0 ≤ u * (t - 0) := Int.mul_nonneg hu (by omega)
      have e0 : u * (t - t) = 0 := by rw [Int.sub_self, Int.mul_zero]
      left
      rcases h with h | h
      · exact .inl (by omega)
      · exact .inr (hit_mono (by omega) h)
  · exact h
theorem rows_mem {F S : Int} {ds : List Item} {row : Int × Int × Int} : row ∈ rowsI F S ds ↔ ∃ i j : Nat, row = ((i : Int), (j : Int), overI F S ds i j) ∧ i ≤ j ∧ j < ds.length ∧ 0 < overI F S ds i j := by
  unfold rowsI rowsAt
  constructor
  · intro h
    obtain ⟨i, hi, h⟩ := List.mem_flatMap.mp h
    obtain ⟨j, hj, rfl⟩ := List.mem_map.mp h
    obtain ⟨hj, ho⟩ := List.mem_filter.mp hj
    have hi := List.mem_range.mp hi
    obtain ⟨k, hk, rfl⟩ := List.mem_range'.mp hj
    exact ⟨i, _, rfl, by omega, by omega, of_decide_eq_true ho⟩
  · rintro ⟨i, j, rfl, hij, hj, ho⟩
    refine List.mem_flatMap.mpr ⟨i, List.mem_range.mpr (by omega), List.mem_map.mpr ⟨j, List.mem_filter.mpr ⟨List.mem_range'.mpr ⟨j - i, by omega, by omega⟩, decide_eq_true ho⟩, rfl⟩⟩
/-- es is a late list of ds: each tick changed by at most off -/
def LateC (off : Int) : List Item → List Item → Int → Prop
  | [], [], _ => True
  | (t, n) :: r, (t', n') :: r', l => (n' = n ∧ l ≤ t' ∧ t - off ≤ t' ∧ t' ≤ t + off) ∧ LateC off r r' t'
  | _, _, _ => False
theorem late_map {off : Int} : ∀ {ds es : List Item} {l : Int}, LateC off ds es l → es.map (·.2) = ds.map (·.2)
  | [], [], _, _ => rfl
  | (t, n) :: r, (t', n') :: r', l, h => by
    obtain ⟨⟨rfl, _⟩, h⟩ := h
    rw [List.map_cons, List.map_cons, late_map h]
  | [], _ :: _, _, h => h.elim
  | _ :: _, [], _, h => h.elim
theorem late_low {off : Int} : ∀ {ds es : List Item} {l : Int}, LateC off ds es l → ∀ y ∈ es, l ≤ y.1
  | [], [], _, _, y, hy => by cases hy
  | (t, n) :: r, (t', n') :: r', l, h, y, hy => by
    obtain ⟨⟨_, h1, _⟩, h⟩ := h
    rcases List.mem_cons.mp hy with rfl | hy
    · exact h1
    · have := late_low h y hy
      omega
  | [], _ :: _, _, h, _, _ => h.elim
  | _ :: _, [], _, h, _, _ => h.elim
theorem late_get {off : Int} : ∀ {ds es : List Item} {l : Int}, LateC off ds es l → ∀ {k : Nat} {y : Item}, es[k]? = some y → ∃ x, ds[k]? = some x ∧ x.1 - off ≤ y.1 ∧ y.1 ≤ x.1 + off
  | [], [], _, _, k, y, hy => by cases hy
  | (t, n) :: r, (t', n') :: r', l, h, k, y, hy => by
    obtain ⟨⟨_, h1, h2, h3⟩, h⟩ := h
    cases k with
    | zero =>
      cases hy
      exact ⟨(t, n), rfl, h2, h3⟩
    | succ k => exact late_get h (k := k) hy
  | [], _ :: _, _, h, _, _, _ => h.elim
  | _ :: _, [], _, h, _, _, _ => h.elim
theorem late_asc {off : Int} : ∀ {ds es : List Item} {l : Int}, LateC off ds es l → ∀ {i j : Nat} {x y : Item}, i ≤ j → es[i]? = some x → es[j]? = some y → x.1 ≤ y.1
  | [], [], _, _, i, j, x, y, _, hx, _ => by cases hx
  | (t, n) :: r, (t', n') :: r', l, h, i, j, x, y, hij, hx, hy => by
    obtain ⟨_, h⟩ := h
    cases i with
    | zero =>
      cases hx
      cases j with
      | zero =>
        cases hy
        exact Int.le_refl _
      | succ j => exact late_low h y (List.mem_of_getElem? (show r'[j]? = some y from hy))
    | succ i =>
      obtain ⟨j, rfl⟩ : ∃ k, j = k + 1 := ⟨j - 1, by omega⟩
      exact late_asc h (i := i) (j := j) (by omega) hx hy
  | [], _ :: _, _, h, _, _, _, _, _, _, _ => h.elim
  | _ :: _, [], _, h, _, _, _, _, _, _, _ => h.elim
theorem over_map {F S : Int} {ds es : List Item} {i j : Nat} (h : es.map (·.2) = ds.map (·.2)) : overI F S es i j = overI F S ds i j := by
  unfold overI
  rw [List.map_take, List.map_drop, h, ← List.map_drop, ← List.map_take]
theorem tkU_get {ds : List Item} {i : Nat} {x : Item} (h : ds[i]? = some x) : tkU ds (i : Int) = x.1 := by
  unfold tkU
  rw [Int.toNat_natCast, List.getD_eq_getElem?_getD, h]
  rfl
/-- a late list with a slip comes of a row that needs no more -/
theorem late_row {F S u off : Int} {ds es : List Item} (hu : 0 ≤ u) (hoff : 0 ≤ off) (h : LateC off ds es 0) (hs : SlipEx F S u es) : ∃ row ∈ rowsI F S ds, chU u ds row ≤ off := by
  obtain ⟨i, j, x, y, hij, hx, hy, ho⟩ := hs
  have xy := late_asc h hij hx hy
  obtain ⟨x0, hx0, x1, x2⟩ := late_get h hx
  obtain ⟨y0, hy0, y1, y2⟩ := late_get h hy
  rw [over_map (late_map h)] at ho
  have p0 : 0 ≤ u * (y.1 - x.1) := Int.mul_nonneg hu (by omega)
  have hj : j < ds.length := (List.getElem?_eq_some_iff.mp hy0).1
  refine ⟨_, rows_mem.mpr ⟨i, j, rfl, hij, hj, by omega⟩, ?_⟩
  unfold chU
  dsimp only
  rw [tkU_get hx0, tkU_get hy0]
  generalize overI F S ds i j = o at *
  split
  · exact hoff
  · have hu1 : 0 < u := by omega
    unfold changeI
    have hd : y.1 - x.1 ≤ (o - 1) / u := Int.le_ediv_of_mul_le hu1 (by rw [Int.mul_comm]; omega)
    omega
/-- where the ticks of a late list stand that brings two items together -/
def nearT (off a b t : Int) : Int := if t < a ∨ b < t then t else min (max t (a + min off ((b - a) / 2))) (max (a + min off ((b - a) / 2)) (b - off))
theorem near_bd {off a b t : Int} (h0 : 0 ≤ off) (hab : a ≤ b) : t - off ≤ nearT off a b t ∧ nearT off a b t ≤ t + off := by
  unfold nearT
  split <;> omega
theorem near_mono {off a b t s : Int} (h0 : 0 ≤ off) (hab : a ≤ b) (h : t < s) : nearT off a b t ≤ nearT off a b s := by
  unfold nearT
  split <;> split <;> omega
theorem near_low {off a b t : Int} (h0 : 0 ≤ off) (ha : 0 ≤ a) (hab : a ≤ b) (ht : 0 ≤ t) : 0 ≤ nearT off a b t := by
  unfold nearT
  split <;> omega
theorem near_ends {off a b : Int} (h0 : 0 ≤ off) (hab : a ≤ b) : nearT off a b b - nearT off a b a = max 0 (b - a - 2 * off) := by
  unfold nearT
  rw [if_neg (by omega), if_neg (by omega)]
  omega
theorem late_near {off : Int} {f : Int → Int} (hb : ∀ t, t - off ≤ f t ∧ f t ≤ t + off) (hm : ∀ t s, t < s → f t ≤ f s) : ∀ {ds : List Item} {m l : Int}, Asc ds m → (∀ x ∈ ds, l ≤ f x.1) → LateC off ds (ds.map fun x => (f x.1, x.2)) l
  | [], _, _, _, _ => trivial
  | (t, n) :: r, m, l, h, hl => by
    obtain ⟨h1, h2, h3⟩ := h
    refine ⟨⟨rfl, hl (t, n) List.mem_cons_self, hb t⟩, late_near hb hm h3 fun x hx => hm _ _ ?_⟩
    have := asc_le h3 x hx
    show t < x.1
    omega
theorem asc_lt : ∀ {ds : List Item} {l : Int}, Asc ds l → ∀ {i j : Nat} {x y : Item}, i ≤ j → ds[i]? = some x → ds[j]? = some y → x.1 ≤ y.1
  | [], _, _, i, j, x, y, _, hx, _ => by cases hx
  | (t, n) :: r, l, h, i, j, x, y, hij, hx, hy => by
    obtain ⟨h1, h2, h3⟩ := h
    cases i with
    | zero =>
      cases hx
      cases j with
      | zero =>
        cases hy
        exact Int.le_refl _
      | succ j =>
        have := asc_le h3 y (List.mem_of_getElem? (show r[j]? = some y from hy))
        dsimp only
        omega
    | succ i =>
      obtain ⟨j, rfl⟩ : ∃ k, j = k + 1 := ⟨j - 1, by omega⟩
      exact asc_lt h3 (i := i) (j := j) (by omega) hx hy
theorem row_late {F S u off : Int} {ds : List Item} {row : Int × Int × Int} (hu : 0 ≤ u) (hoff : 0 ≤ off) (ha : Asc ds 0) (h : row ∈ rowsI F S ds) (hc : chU u ds row ≤ off) : ∃ es, LateC off ds es 0 ∧ SlipEx F S u es := by
  obtain ⟨i, j, rfl, hij, hj, ho⟩ := rows_mem.mp h
  obtain ⟨x, hx⟩ : ∃ x, ds[i]? = some x := ⟨_, List.getElem?_eq_getElem (by omega)⟩
  obtain ⟨y, hy⟩ : ∃ y, ds[j]? = some y := ⟨_, List.getElem?_eq_getElem hj⟩
  have xy := asc_lt ha hij hx hy
  have x0 := asc_le ha x (List.mem_of_getElem? hx)
  have e2 : (ds.map fun z => (nearT off x.1 y.1 z.1, z.2)).map (·.2) = ds.map (·.2) := by rw [List.map_map]; rfl
  refine ⟨_, late_near (f := nearT off x.1 y.1) (fun t => near_bd hoff xy) (fun t s => near_mono hoff xy) ha fun z hz => near_low hoff x0 xy (asc_le ha z hz), i, j, (nearT off x.1 y.1 x.1, x.2), (nearT off x.1 y.1 y.1, y.2), hij, by rw [List.getElem?_map, hx]; rfl, by rw [List.getElem?_map, hy]; rfl, ?_⟩
  rw [over_map e2]
  dsimp only
  rw [near_ends hoff xy]
  unfold chU at hc
  dsimp only at hc
  rw [tkU_get hx, tkU_get hy] at hc
  generalize overI F S ds i j = o at *
  split at hc
  · rename_i h0
    rw [h0, Int.zero_mul]
    exact ho
  · unfold changeI at hc
    have d1 : 0 ≤ (o - 1) / u := Int.ediv_nonneg (by omega) hu
    have d2 : u * ((o - 1) / u) ≤ o - 1 := by rw [Int.mul_comm]; exact Int.ediv_mul_le _ (by omega)
    have : u * max 0 (y.1 - x.1 - 2 * off) ≤ u * ((o - 1) / u) := Int.mul_le_mul_of_nonneg_left (by omega) hu
    omega
theorem late_self : ∀ {ds : List Item} {l : Int}, Asc ds l → LateC 0 ds ds l
  | [], _, _ => trivial
  | (t, n) :: r, l, h => by
    obtain ⟨h1, h2, h3⟩ := h
    refine ⟨⟨rfl, h1, by omega, by omega⟩, ?_⟩
    have := late_self h3
    have w : ∀ {ds es : List Item} {a b : Int}, a ≤ b → LateC 0 ds es b → LateC 0 ds es a := fun {ds es a b} hab h => by
      match ds, es, h with
      | [], [], _ => trivial
      | (t, n) :: r, (t', n') :: r', ⟨⟨h1, h2, h3⟩, h⟩ => exact ⟨⟨h1, by omega, h3⟩, h⟩
    exact w (by omega) this
theorem min_ex {u : Int} {ds : List Item} : ∀ {l : List (Int × Int × Int)}, l ≠ [] → ∃ row ∈ l, ∀ x ∈ l, chU u ds row ≤ chU u ds x
  | [], h => absurd rfl h
  | [a], _ => ⟨a, List.mem_cons_self, fun x hx => by rw [List.mem_singleton.mp hx]; exact Int.le_refl _⟩
  | a :: b :: l, _ => by
    obtain ⟨r, hr, hm⟩ := min_ex (u := u) (ds := ds) (l := b :: l) (List.cons_ne_nil _ _)
    by_cases h : chU u ds a ≤ chU u ds r
    · refine ⟨a, List.mem_cons_self, fun x hx => ?_⟩
      rcases List.mem_cons.mp hx with rfl | hx
      · exact Int.le_refl _
      · exact Int.le_trans h (hm x hx)
    · refine ⟨r, List.mem_cons_of_mem _ hr, fun x hx => ?_⟩
      rcases List.mem_cons.mp hx with rfl | hx
      · omega
      · exact hm x hx
theorem min_some {F S u : Int} {ds : List Item} (h : rowsI F S ds ≠ []) : ∃ m, MinU F S u ds m := by
  obtain ⟨row, hr, hm⟩ := min_ex (u := u) (ds := ds) h
  exact ⟨_, row, hr, rfl, hm⟩
theorem ch_nonneg {u : Int} {ds : List Item} {row : Int × Int × Int} : 0 ≤ chU u ds row := by
  unfold chU changeI
  split <;> omega
theorem min_nonneg {F S u : Int} {ds : List Item} {m : Int} (h : MinU F S u ds m) : 0 ≤ m := by
  obtain ⟨row, _, rfl, _⟩ := h
  exact ch_nonneg
/-- the drive itself has a slip exactly if a row needs no change -/
theorem min_slip {F S u m : Int} {ds : List Item} (hu : 0 ≤ u) (ha : Asc ds 0) (h : MinU F S u ds m) : slipL F S u ds 0 0 = true ↔ m = 0 := by
  rw [slip_ex hu fun x hx => asc_le ha x hx]
  have h0 := min_nonneg h
  obtain ⟨row, hr, e, hm⟩ := h
  constructor
  · intro hs
    obtain ⟨r2, hr2, hc⟩ := late_row hu (Int.le_refl 0) (late_self ha) hs
    have := hm r2 hr2
    omega
  · rintro rfl
    obtain ⟨es, hl, hs⟩ := row_late hu (Int.le_refl 0) ha hr (by rw [e]; exact Int.le_refl _)
    have ee : ∀ {ds es : List Item} {l : Int}, LateC 0 ds es l → es = ds := by
      intro ds
      induction ds with
      | nil => intro es l h; cases es with
        | nil => rfl
        | cons a b => exact h.elim
      | cons x r ih => intro es l h; cases es with
        | nil => exact h.elim
        | cons y r' =>
          obtain ⟨t, n⟩ := x
          obtain ⟨t', n'⟩ := y
          obtain ⟨⟨rfl, _, h1, h2⟩, h⟩ := h
          rw [ih h, show t' = t by omega]
    rw [ee hl] at hs
    exact hs
/-- some late list changed by off has a slip exactly if off is the least change at least -/
theorem min_late {F S u m off : Int} {ds : List Item} (hu : 0 ≤ u) (hoff : 0 ≤ off) (ha : Asc ds 0) (h : MinU F S u ds m) : (∃ es, LateC off ds es 0 ∧ slipL F S u es 0 0 = true) ↔ m ≤ off := by
  obtain ⟨row, hr, e, hm⟩ := h
  constructor
  · rintro ⟨es, hl, hs⟩
    rw [slip_ex hu (late_low hl)] at hs
    obtain ⟨r2, hr2, hc⟩ := late_row hu hoff hl hs
    have := hm r2 hr2
    omega
  · intro h
    obtain ⟨es, hl, hs⟩ := row_late hu hoff ha hr (by omega)
    exact ⟨es, hl, (slip_ex hu (late_low hl)).mpr hs⟩
theorem sum_nonneg : ∀ {l : List Int}, (∀ x ∈ l, 0 ≤ x) → 0 ≤ l.sum
  | [], _ => Int.le_refl _
  | x :: r, h => by
    have := sum_nonneg fun y hy => h y (List.mem_cons_of_mem _ hy)
    have := h x List.mem_cons_self
    rw [List.sum_cons]
    omega
/-- no row at all exactly if all turns together are at most fore -/
theorem rows_nil {F S : Int} {ds : List Item} (hF : 0 ≤ F) (hS : 0 ≤ S) (h1 : ∀ x ∈ ds, 1 ≤ x.2) : rowsI F S ds = [] ↔ (ds.map (·.2)).sum * S ≤ F := by
  have pos : ∀ {l : List Item}, (∀ x ∈ l, x ∈ ds) → 0 ≤ (l.map (·.2)).sum := fun {l} hl => sum_nonneg fun y hy => by
    obtain ⟨x, hx, rfl⟩ := List.mem_map.mp hy
    have := h1 x (hl x hx)
    omega
  constructor
  · intro h
    cases ds with
    | nil => simpa using hF
    | cons x r =>
      by_cases hc : ((x :: r).map (·.2)).sum * S ≤ F
      · exact hc
      · have : ((((0 : Nat) : Int), ((((x :: r).length - 1 : Nat) : Int), overI F S (x :: r) 0 ((x :: r).length - 1))) : Int × Int × Int) ∈ rowsI F S (x :: r) := by
          refine rows_mem.mpr ⟨0, (x :: r).length - 1, rfl, Nat.zero_le _, by simp, ?_⟩
          unfold overI
          rw [List.drop_zero, Nat.sub_zero, show (x :: r).length - 1 + 1 = (x :: r).length by simp, List.take_length, Int.mul_comm]
          omega
        rw [h] at this
        cases this
  · intro h
    rw [List.eq_nil_iff_forall_not_mem]
    intro row hr
    obtain ⟨i, j, rfl, hij, hj, ho⟩ := rows_mem.mp hr
    unfold overI at ho
    have e : ds = ds.take i ++ ((ds.drop i).take (j + 1 - i) ++ (ds.drop i).drop (j + 1 - i)) := by rw [List.take_append_drop, List.take_append_drop]
    have e2 : (ds.map (·.2)).sum = ((ds.take i).map (·.2)).sum + ((((ds.drop i).take (j + 1 - i)).map (·.2)).sum + (((ds.drop i).drop (j + 1 - i)).map (·.2)).sum) := by
      conv => lhs; rw [e]
      rw [List.map_append, List.map_append, List.sum_append, List.sum_append]
    have p1 := pos (l := ds.take i) fun x hx => List.mem_of_mem_take hx
    have p2 := pos (l := (ds.drop i).drop (j + 1 - i)) fun x hx => List.mem_of_mem_drop (List.mem_of_mem_drop hx)
    have p3 : S * (((ds.drop i).take (j + 1 - i)).map (·.2)).sum ≤ S * (ds.map (·.2)).sum := Int.mul_le_mul_of_nonneg_left (by omega) hS
    rw [Int.mul_comm S (ds.map (·.2)).sum] at p3
    omega
/-! ### all late lists -/
def rangeI (a b : Int) : List Int := (List.range (b - a).toNat).map fun k => a + (k : Nat)
theorem range_mem {a b t : Int} : t ∈ rangeI a b ↔ a ≤ t ∧ t < b := by
  unfold rangeI
  constructor
  · intro h
    obtain ⟨k, hk, rfl⟩ := List.mem_map.mp h
    have := List.mem_range.mp hk
    omega
  · intro h
    exact List.mem_map.mpr ⟨(t - a).toNat, List.mem_range.mpr (by omega), by omega⟩
def lastTk (rows : List Item) : Int := match rows.getLast? with | some x => x.1 | none => 0
theorem last_snoc {rows : List Item} {x : Item} : lastTk (rows ++ [x]) = x.1 := by
  unfold lastTk
  rw [List.getLast?_concat]
def lateStep (off : Int) (found : List (List Item)) (x : Item) : List (List Item) := found.flatMap fun rows => (rangeI (max (max 0 (x.1 - off)) (lastTk rows)) (x.1 + off + 1)).map fun t => rows ++ [(t, x.2)]
theorem late_mem {off : Int} : ∀ {ds : List Item} {found : List (List Item)} {es : List Item}, es ∈ ds.foldl (lateStep off) found ↔ ∃ p ∈ found, ∃ q, es = p ++ q ∧ LateC off ds q (max 0 (lastTk p))
  | [], found, es => ⟨fun h => ⟨es, h, [], (List.append_nil _).symm, trivial⟩, fun ⟨p, hp, q, e, h⟩ => by
      cases q with
      | nil => rw [e, List.append_nil]; exact hp
      | cons a b => exact h.elim⟩
  | (t, n) :: r, found, es => by
    rw [List.foldl_cons, late_mem]
    constructor
    · rintro ⟨p, hp, q, e, h⟩
      obtain ⟨p0, hp0, hp⟩ := List.mem_flatMap.mp hp
      obtain ⟨s, hs, rfl⟩ := List.mem_map.mp hp
      rw [range_mem] at hs
      rw [last_snoc] at h
      dsimp only at hs h
      refine ⟨p0, hp0, (s, n) :: q, by rw [e, List.append_assoc]; rfl, ⟨rfl, by omega, by omega, by omega⟩, ?_⟩
      rw [Int.max_eq_right (by omega)] at h
      exact h
    · rintro ⟨p, hp, q, e, h⟩
      cases q with
      | nil => exact h.elim
      | cons a q =>
        obtain ⟨s, n'⟩ := a
        obtain ⟨⟨rfl, h1, h2, h3⟩, h⟩ := h
        refine ⟨p ++ [(s, n')], List.mem_flatMap.mpr ⟨p, hp, List.mem_map.mpr ⟨s, range_mem.mpr (by dsimp only; omega), rfl⟩⟩, q, by rw [e, List.append_assoc]; rfl, ?_⟩
        rw [last_snoc]
        dsimp only
        rw [Int.max_eq_right (by omega)]
        exact h
def hasL (F S u off : Int) (ds : List Item) : Bool := (ds.foldl (lateStep off) [[]]).any fun es => slipL F S u es 0 0
theorem has_min {F S u m off : Int} {ds : List Item} (hu : 0 ≤ u) (hoff : 0 ≤ off) (ha : Asc ds 0) (h : MinU F S u ds m) : hasL F S u off ds = decide (m ≤ off) := by
  rw [Bool.eq_iff_iff, decide_eq_true_eq, ← min_late hu hoff ha h]
  unfold hasL
  rw [List.any_eq_true]
  constructor
  · rintro ⟨es, he, hs⟩
    obtain ⟨p, hp, q, e, hl⟩ := late_mem.mp he
    cases List.mem_singleton.mp hp
    rw [List.nil_append] at e
    subst e
    exact ⟨es, hl, hs⟩
  · rintro ⟨es, hl, hs⟩
    exact ⟨es, late_mem.mpr ⟨[], List.mem_singleton.mpr rfl, es, rfl, hl⟩, hs⟩
def chD (u : Int) (ds : List Item) : PyData → PyData
  | .tuple [.int i, .int j, .int o] => .tuple [.int (chU u ds (i, j, o)), .tuple [.int i, .int j, .int o]]
  | d => d
theorem sum_le {B : Int} (hB : 0 ≤ B) : ∀ {l : List Int}, (∀ x ∈ l, x ≤ B) → l.sum ≤ (l.length : Int) * B
  | [], _ => by simp
  | x :: r, h => by
    have := sum_le hB fun y hy => h y (List.mem_cons_of_mem _ hy)
    have := h x List.mem_cons_self
    rw [List.sum_cons, List.length_cons, Int.natCast_add, Int.add_mul]
    omega
theorem over_bd {R S : Int} {ds : List Item} {i j : Nat} (hS : 0 ≤ S ∧ S ≤ 10 ^ 31) (hR : 0 ≤ R) (hl : ds.length ≤ 60) (h : ∀ x ∈ ds, 1 ≤ x.2 ∧ x.2 ≤ 10 ^ 31) : overI (R / 2) S ds i j ≤ 10 ^ 70 := by
  have h1 := sum_le (B := 10 ^ 31) (by decide) (l := ((ds.drop i).take (j + 1 - i)).map (·.2)) fun y hy => by
    obtain ⟨x, hx, rfl⟩ := List.mem_map.mp hy
    exact (h x (List.mem_of_mem_drop (List.mem_of_mem_take hx))).2
  have h2 : (((ds.drop i).take (j + 1 - i)).map (·.2)).length ≤ 60 := by
    rw [List.length_map, List.length_take, List.length_drop]
    omega
  have h3 : 0 ≤ (((ds.drop i).take (j + 1 - i)).map (·.2)).sum := sum_nonneg fun y hy => by
    obtain ⟨x, hx, rfl⟩ := List.mem_map.mp hy
    have := h x (List.mem_of_mem_drop (List.mem_of_mem_take hx))
    omega
  unfold overI
  generalize (((ds.drop i).take (j + 1 - i)).map (·.2)).sum = s at *
  have h4 : s ≤ 60 * 10 ^ 31 := by omega
  have h5 : S * s ≤ 10 ^ 31 * (60 * 10 ^ 31) := Int.le_trans (Int.mul_le_mul_of_nonneg_right hS.2 h3) (Int.mul_le_mul_of_nonneg_left h4 (by decide))
  omega
theorem rowT_alike {u : Int} {ds : List Item} {l : List (Int × Int × Int)} : PySem.W.AlikeAll (l.map fun y => PyData.tuple (.int (chU u ds y) :: [rowT y])) := by
  refine ⟨fun x hx y hy => ?_, fun x hx => ?_⟩
  · obtain ⟨a, _, rfl⟩ := List.mem_map.mp hx
    obtain ⟨b, _, rfl⟩ := List.mem_map.mp hy
    rfl
  · obtain ⟨a, _, rfl⟩ := List.mem_map.mp hx
    exact nofun
theorem rowT_flat {x : Int × Int × Int} : Fl 1 (rowT x) := .tup fun z hz => by
  simp only [List.mem_cons, List.not_mem_nil, or_false] at hz
  rcases hz with rfl | rfl | rfl <;> exact .int
theorem chT_flat {u : Int} {ds : List Item} {l : List (Int × Int × Int)} : Fl 3 (.list (l.map fun y => PyData.tuple (.int (chU u ds y) :: [rowT y]))) := .lst fun x hx => by
  obtain ⟨y, _, rfl⟩ := List.mem_map.mp hx
  exact .tup (n := 1) fun z hz => by
    simp only [List.mem_cons, List.not_mem_nil, or_false] at hz
    rcases hz with rfl | rfl
    · exact .int
    · exact rowT_flat
theorem rows_len {F S : Int} {ds : List Item} : (rowsI F S ds).length ≤ ds.length * ds.length := by
  have h : ∀ k, ((List.range k).flatMap fun i => rowsAt F S ds i (ds.length - i)).length ≤ ds.length * k := by
    intro k
    induction k with
    | zero => simp
    | succ k ih =>
      rw [List.range_succ, List.flatMap_append, List.length_append, Nat.mul_succ]
      have := @rows_at_len F S ds k (ds.length - k)
      simp only [List.flatMap_cons, List.flatMap_nil, List.append_nil]
      omega
  exact h _
theorem asc_top : ∀ {ds : List Item} {l t c c' : Int}, Asc (ds ++ [(t, c)]) l → c' ≠ 0 → Asc (ds ++ [(t, c')]) l
  | [], _, _, _, _, ⟨h1, _, h3⟩, h => ⟨h1, h, h3⟩
  | (_, _) :: _, _, _, _, _, ⟨h1, h2, h3⟩, h => ⟨h1, h2, asc_top h3 h⟩
theorem asc_below : ∀ {ds : List Item} {l t c : Int}, Asc (ds ++ [(t, c)]) l → l ≤ t ∧ ∀ x ∈ ds, x.1 < t
  | [], _, _, _, ⟨h1, _, _⟩ => ⟨h1, fun x hx => by cases hx⟩
  | (a, n) :: r, _, _, _, ⟨h1, h2, h3⟩ => by
    obtain ⟨q1, q2⟩ := asc_below h3
    refine ⟨by omega, fun x hx => ?_⟩
    rcases List.mem_cons.mp hx with rfl | hx
    · show a < _
      omega
    · exact q2 x hx
theorem items_get {ds : List Item} {i : Nat} {x : PyData} (hx : (ds.map itD)[i]? = some x) : ∃ t n, ds[i]? = some (t, n) ∧ i < ds.length ∧ x = itD (t, n) ∧ ds.drop i = (t, n) :: ds.drop (i + 1) := by
  rw [List.getElem?_map] at hx
  cases hd : ds[i]? with
  | none => rw [hd] at hx; cases hx
  | some y =>
    rw [hd] at hx
    have hi : i < ds.length := (List.getElem?_eq_some_iff.mp hd).1
    refine ⟨y.1, y.2, rfl, hi, (Option.some.inj hx).symm, ?_⟩
    rw [List.drop_eq_getElem_cons hi]
    congr 1
    exact (List.getElem?_eq_some_iff.mp hd).2
theorem late_elem {off : Int} {ds e : List Item} (h : e ∈ ds.foldl (lateStep off) [[]]) : LateC off ds e 0 := by
  obtain ⟨p, hp, q, e, hl⟩ := late_mem.mp h
  cases List.mem_singleton.mp hp
  rw [List.nil_append] at e
  subst e
  exact hl
theorem late_len {off : Int} {ds e : List Item} {l : Int} (h : LateC off ds e l) : e.length = ds.length := by
  have := congrArg List.length (late_map h)
  rw [List.length_map, List.length_map] at this
  exact this
theorem step_len {off : Int} {x : Item} : ∀ {found : List (List Item)}, (lateStep off found x).length ≤ found.length * (2 * off + 1).toNat
  | [] => by simp [lateStep]
  | p :: r => by
    have ih := @step_len off x r
    unfold lateStep at ih ⊢
    rw [List.flatMap_cons, List.length_append, List.length_map, List.length_cons, Nat.succ_mul]
    have : (rangeI (max (max 0 (x.1 - off)) (lastTk p)) (x.1 + off + 1)).length ≤ (2 * off + 1).toNat := by
      unfold rangeI
      rw [List.length_map, List.length_range]
      omega
    omega
theorem late_count {off : Int} : ∀ {ds : List Item} {found : List (List Item)}, (ds.foldl (lateStep off) found).length ≤ found.length * (2 * off + 1).toNat ^ ds.length
  | [], found => by simp
  | x :: r, found => by
    have ih := @late_count off r (lateStep off found x)
    have st := @step_len off x found
    rw [List.foldl_cons, List.length_cons, Nat.pow_succ, Nat.mul_comm (_ ^ _), ← Nat.mul_assoc]
    exact Nat.le_trans ih (Nat.mul_le_mul_right _ st)
theorem late_few {off : Int} {ds : List Item} (h : ds.length ≤ 3) (h0 : 0 ≤ off) (h1 : off ≤ 4) : (ds.foldl (lateStep off) [[]]).length ≤ 729 := by
  have := @late_count off ds [[]]
  rw [List.length_singleton, Nat.one_mul] at this
  refine Nat.le_trans this (Nat.le_trans (Nat.pow_le_pow_left (show (2 * off + 1).toNat ≤ 9 by omega) _) ?_)
  exact Nat.le_trans (Nat.pow_le_pow_right (by decide) h) (by decide)
theorem any_filter {α : Type} {p : α → Bool} {f : α → PyData} : ∀ {l : List α}, ((l.filter p).map f).isEmpty = !(l.any p)
  | [] => rfl
  | a :: l => by
    have ih := @any_filter α p f l
    cases h : p a with
    | true => simp [List.filter_cons, h]
    | false =>
      rw [List.filter_cons_of_neg (by simp [h]), ih]
      simp [h]
def esD (e : List Item) : PyData := .list (e.map itD)
theorem esD_flat {l : List (List Item)} : Fl 4 (.list (l.map esD)) := .lst fun x hx => by
  obtain ⟨e, _, rfl⟩ := List.mem_map.mp hx
  exact itD_flat (n := 1)
theorem ess_get {l : List (List Item)} {i : Nat} {x : PyData} (h : (l.map esD)[i]? = some x) : ∃ e, l[i]? = some e ∧ e ∈ l ∧ i < l.length ∧ x = .list (e.map itD) := by
  rw [List.getElem?_map] at h
  cases hd : l[i]? with
  | none => rw [hd] at h; cases h
  | some y =>
    rw [hd] at h
    exact ⟨y, rfl, List.mem_of_getElem? hd, (List.getElem?_eq_some_iff.mp hd).1, (Option.some.inj h).symm⟩
theorem w_int1 {M : Mem} {Q : Qx} (h : Q (.d (.int 1)) M) : rInt [.d (.bool !false)] M Q := h
theorem w_int0 {M : Mem} {Q : Qx} (h : Q (.d (.int 0)) M) : rInt [.d (.bool !true)] M Q := h
theorem w_iQone {M : Mem} {R : List PyData → Mem → Prop} (h : R [.int 0] M) : iQ1 R [.d (.int 1)] M := ⟨⟨by decide, by decide⟩, h⟩
theorem w_iQnil {M : Mem} {R : List PyData → Mem → Prop} (h : R [] M) : iQ1 R [.d (.int 0)] M := ⟨⟨by decide, by decide⟩, h⟩
theorem last_nil : lastTk [] = 0 := rfl
theorem maxD_two {a b : Int} : PySem.W.maxD (.int a) [.int b] = .int (max a b) := PySem.W.maxD_ints a [b]
theorem maxD_three {a b c : Int} : PySem.W.maxD (.int a) [.int b, .int c] = .int (max (max a b) c) := PySem.W.maxD_ints a [b, c]
theorem intA {l : List Int} : PySem.W.AlikeAll (l.map PyData.int) := by
  refine ⟨fun x hx y hy => ?_, fun x hx => ?_⟩
  · obtain ⟨a, _, rfl⟩ := List.mem_map.mp hx
    obtain ⟨b, _, rfl⟩ := List.mem_map.mp hy
    rfl
  · obtain ⟨a, _, rfl⟩ := List.mem_map.mp hx
    exact nofun
theorem intsF {l : List Int} : Fl 40 (.list (l.map PyData.int)) := .lst (n := 39) (Kt.Fl.ints (is := l))
theorem ints_range {a b : Int} : Kt.intsFrom a (b - a).toNat = (rangeI a b).map PyData.int := by
  unfold Kt.intsFrom rangeI
  rw [List.map_map]
  rfl
theorem min_top {F S u m T : Int} {ds : List Item} (hu : 0 ≤ u) (ha : Asc ds 0) (ht : ∀ x ∈ ds, x.1 ≤ T) (h : MinU F S u ds m) (m1 : 1 ≤ m) : 2 * m ≤ T + 1 := by
  obtain ⟨row, hr, e, _⟩ := h
  obtain ⟨i, j, rfl, hij, hj, ho⟩ := rows_mem.mp hr
  obtain ⟨x, hx⟩ : ∃ x, ds[i]? = some x := ⟨_, List.getElem?_eq_getElem (by omega)⟩
  obtain ⟨y, hy⟩ : ∃ y, ds[j]? = some y := ⟨_, List.getElem?_eq_getElem hj⟩
  have x0 := asc_le ha x (List.mem_of_getElem? hx)
  have y0 := ht y (List.mem_of_getElem? hy)
  unfold chU at e
  dsimp only at e
  rw [tkU_get hx, tkU_get hy] at e
  split at e
  · omega
  · unfold changeI at e
    have : 0 ≤ (overI F S ds i j - 1) / u := Int.ediv_nonneg (by omega) hu
    omega
def g_check_slack : Gs := fun cs M Q E => match cs, M with
  | [.d (.tuple [.int R, .int S]), .d (.int u), .d (.list xs)], [] => ∃ ds : List Item, xs = ds.map itD ∧ (WhI R S ∧ 0 ≤ u ∧ UpOk ds) ∧ retD Q .none
  | _, _ => False
def PreV (R S u : Int) (ds : List Item) : Prop := WhI R S ∧ R ≤ 10 ^ 31 ∧ 0 ≤ u ∧ u ≤ 10 ^ 40 ∧ UpOk ds
def g_weakest : Gs := fun cs M Q E => match cs, M with
  | [.d (.tuple [.int R, .int S]), .d (.int u), .d (.list xs)], [] => ∃ ds : List Item, xs = ds.map itD ∧ PreV R S u ds ∧ (rowsI (R / 2) S ds = [] → retD Q .none) ∧ ∀ row ∈ rowsI (R / 2) S ds, (∀ x ∈ rowsI (R / 2) S ds, chU u ds row ≤ chU u ds x) → retD Q (.tuple [.int (chU u ds row), rowT row])
  | _, _ => False
def x_slack (im : Addr) : Gs := fun cs M Q E => match cs, M with
  | [.d (.tuple [.int R, .int S]), .d (.int u), .d (.list xs)], [] => ∃ ds : List Item, xs = ds.map itD ∧ PreV R S u ds ∧ (rowsI (R / 2) S ds = [] → retD Q .none) ∧ (MinU (R / 2) S u ds 0 → ∀ M, E ⟨im, none⟩ M) ∧ ∀ m, MinU (R / 2) S u ds m → 1 ≤ m → retD Q (.int (m - 1))
  | _, _ => False
def g__law_least : Gs := fun cs M Q E => match cs, M with
  | [.r 0, .d (.tuple [.int R, .int S])], [.live [.int a, .int b, .int c]] => ((SrcOk a b c ∧ c + 4 ≤ 10 ^ 12) ∧ WhI R S ∧ R ≤ 10 ^ 31) ∧ ∀ u a' c', 1 ≤ u → u ≤ 2 * R + 2 → 0 ≤ a' → c ≤ c' → c' ≤ c + 4 → retDR Q [.int a', .int b, .int c'] (.int u)
  | _, _ => False
def AhP (T : Int) (n : Nat) (L : List Item) : Prop := L.length = n ∧ (∀ x ∈ L, 0 ≤ x.1 ∧ x.1 ≤ T) ∧ L.Pairwise fun x y => x.1 ≤ y.1
def g__law_slips : Gs := fun cs M Q E => match cs, M with
  | [.d (.tuple [.int R, .int S]), .d (.int u), .d (.list xs)], [] => ∃ ds : List Item, xs = ds.map itD ∧ ((WhI R S ∧ R ≤ 10 ^ 31) ∧ (0 ≤ u ∧ u ≤ 10 ^ 40) ∧ ds.length ≤ 60 ∧ ∀ x ∈ ds, (0 ≤ x.1 ∧ x.1 ≤ 10 ^ 40) ∧ 1 ≤ x.2 ∧ x.2 ≤ 10 ^ 31) ∧ retD Q (.bool (slipL (R / 2) S u ds 0 0))
  | _, _ => False
def g__law_split : Gs := fun cs M Q E => match cs, M with
  | [.r 0, .d (.tuple [.int R, .int S])], [.live [.int a, .int b, .int c]] => ((SrcOk a b c ∧ c + 4 ≤ 10 ^ 12) ∧ WhI R S ∧ R ≤ 10 ^ 31) ∧ ∀ t un a' c', 1 ≤ t → 1 ≤ un → t * un ≤ S → 0 ≤ a' → c ≤ c' → c' ≤ c + 4 → retLR Q [.int a', .int b, .int c'] [.tuple [.int R, .int (t * un)], .int t, .tuple [.int R, .int un]]
  | _, _ => False
theorem w_eqE {M : Mem} {Q : Qx} {c d : Cell} {xs : List PyData} {b : Bool} (eb : xs.isEmpty = b) (e : Sees M c (.list xs)) (e' : Sees M d (.list [])) (f : Fl 40 (.list xs)) (h : Q (.d (.bool b)) M) : pEq c d M Q :=
  w_eqG (sees_dS e) (sees_dS e') (w_eqL (Fl.sh f (.lst (n := 0) (fun x hx => by cases hx)) (by decide) (by decide)) (eqvAll_nil.trans eb) h)
theorem asc_take : ∀ {ds : List Item} {l : Int} {k : Nat}, Asc ds l → Asc (ds.take k) l
  | [], _, _, _ => by rw [List.take_nil]; trivial
  | (_, _) :: _, _, 0, _ => trivial
  | (_, _) :: _, _, _ + 1, ⟨h1, h2, h3⟩ => ⟨h1, h2, asc_take h3⟩
theorem asc_mul {t : Int} (ht : 1 ≤ t) : ∀ {ds : List Item} {l : Int}, Asc ds l → (∀ x ∈ ds, 1 ≤ x.2) → Asc (ds.map fun x => (x.1, x.2 * t)) l
  | [], _, _, _ => trivial
  | (s, n) :: r, _, ⟨h1, _, h3⟩, hp => ⟨h1, by
      have := hp (s, n) List.mem_cons_self
      have := Int.mul_le_mul_of_nonneg_left ht (show 0 ≤ n by omega)
      show n * t ≠ 0
      omega, asc_mul ht h3 fun x hx => hp x (List.mem_cons_of_mem _ hx)⟩
def mulT (t : Int) : PyData → PyData
  | .tuple [.int x, .int n] => .tuple [.int x, .int (n * t)]
  | d => d
section
variable {M : Mem} {Q : Qx} {ρ : Rho} {Wh : Xc → Rho → Mem → Prop} {n kk : Nat} {a b c : Int}
theorem w_splitG {R S : Int} (hn : 2 = kk) (hm : At n M b a c) (pre : (SrcOk a b c ∧ c + 4 ≤ 10 ^ 12) ∧ WhI R S ∧ R ≤ 10 ^ 31)
    (h : ∀ t un k a' c' M', 1 ≤ t → 1 ≤ un → t * un ≤ S → 0 ≤ a' → c ≤ c' → c' ≤ c + 4 → At n M' b a' c' → M'[k]? = some (.live [.tuple [.int R, .int (t * un)], .int t, .tuple [.int R, .int un]]) → Q (.r k) M') : gCallR kk g__law_split Wh ρ Q [.r n, .d (.tuple [.int R, .int S])] M := by
  refine w_gcallR hn rfl hm ?_
  refine ⟨pre, fun t un a' c' h1 h2 h3 h4 h5 h6 => w_retLR (h t un M.length a' c' _ h1 h2 h3 h4 h5 h6 (At.app (at_set hm)) ?_)⟩
  have := @new_at (M.set n (.live [.int a', .int b, .int c'])) (.live [.tuple [.int R, .int (t * un)], .int t, .tuple [.int R, .int un]])
  rw [List.length_set] at this
  exact this
theorem w_leastG {R S : Int} (hn : 2 = kk) (hm : At n M b a c) (pre : (SrcOk a b c ∧ c + 4 ≤ 10 ^ 12) ∧ WhI R S ∧ R ≤ 10 ^ 31)
    (h : ∀ u a' c' M', 1 ≤ u → u ≤ 2 * R + 2 → 0 ≤ a' → c ≤ c' → c' ≤ c + 4 → At n M' b a' c' → Kp n M M' → Q (.d (.int u)) M') : gCallR kk g__law_least Wh ρ Q [.r n, .d (.tuple [.int R, .int S])] M :=
  w_gcallR hn rfl hm ⟨pre, fun u a' c' h1 h2 h3 h4 h5 => w_retDR (h u a' c' _ h1 h2 h3 h4 h5 (at_set hm) kp_set)⟩
end
def ItsP (T : Int) (n : Nat) (ds : List Item) : Prop := ds.length ≤ n ∧ Asc ds 0 ∧ ∀ x ∈ ds, x.1 ≤ T ∧ 1 ≤ x.2 ∧ x.2 ≤ n
end Lw

set_option Elab.async false
set_option linter.all false
set_option maxRecDepth 100000
set_option maxHeartbeats 4000000
namespace Lw
open PySem PySem.Spec PyProof.Rows L2 Kt
/-! ### steps as soon as the hindmost wheel lets them, or later: no slip -/
/-- the ticks of steps, one behind another, that lose nothing -/
def NsP (F S u : Int) (L : List Int) : Prop := ∀ (i j : Nat) (x y : Int), i ≤ j → L[i]? = some x → L[j]? = some y → ((j : Int) + 1) * S - F ≤ i * S + u * (y - x)
def expI (ds : List Item) : List Int := ds.flatMap fun x => List.replicate x.2.toNat x.1
theorem exp_cons {x : Item} {r : List Item} : expI (x :: r) = List.replicate x.2.toNat x.1 ++ expI r := rfl
theorem exp_len : ∀ {ds : List Item}, (∀ x ∈ ds, 1 ≤ x.2) → ((expI ds).length : Int) = (ds.map (·.2)).sum
  | [], _ => rfl
  | x :: r, h => by
    have ih := exp_len fun y hy => h y (List.mem_cons_of_mem _ hy)
    have := h x List.mem_cons_self
    rw [exp_cons, List.length_append, List.length_replicate, List.map_cons, List.sum_cons, ← ih]
    omega
/-- the first and the last step of an item -/
theorem exp_get : ∀ {ds : List Item} {i : Nat} {x : Item}, (∀ x ∈ ds, 1 ≤ x.2) → ds[i]? = some x → (expI ds)[(expI (ds.take i)).length]? = some x.1 ∧ (expI ds)[(expI (ds.take (i + 1))).length - 1]? = some x.1 ∧ 1 ≤ (expI (ds.take (i + 1))).length
  | [], i, x, _, h => by cases h
  | y :: r, 0, x, hp, h => by
    cases h
    have := hp y List.mem_cons_self
    have e : expI ((y :: r).take 1) = List.replicate y.2.toNat y.1 := by
      rw [List.take_succ_cons, List.take_zero, exp_cons]
      show List.replicate _ _ ++ [] = _
      rw [List.append_nil]
    rw [e, exp_cons, List.length_replicate]
    refine ⟨?_, ?_, by omega⟩
    · show (List.replicate y.2.toNat y.1 ++ expI r)[0]? = some y.1
      rw [List.getElem?_append_left (by rw [List.length_replicate]; omega), List.getElem?_replicate, if_pos (by omega)]
    · rw [List.getElem?_append_left (by rw [List.length_replicate]; omega), List.getElem?_replicate, if_pos (by omega)]
  | y :: r, i + 1, x, hp, h => by
    obtain ⟨a1, a2, a3⟩ := exp_get (ds := r) (i := i) (x := x) (fun z hz => hp z (List.mem_cons_of_mem _ hz)) h
    rw [List.take_succ_cons, exp_cons, List.take_succ_cons, exp_cons, exp_cons, List.length_append, List.length_append]
    refine ⟨?_, ?_, by omega⟩
    · rw [List.getElem?_append_right (by omega), Nat.add_sub_cancel_left]
      exact a1
    · rw [List.getElem?_append_right (by rw [List.length_replicate] at *; omega)]
      rw [show (List.replicate y.2.toNat y.1).length + (expI (r.take (i + 1))).length - 1 - (List.replicate y.2.toNat y.1).length = (expI (r.take (i + 1))).length - 1 by omega]
      exact a2
theorem ns_slip {F S u : Int} {ds : List Item} (hp : ∀ x ∈ ds, 1 ≤ x.2) (h : NsP F S u (expI ds)) : ¬ SlipEx F S u ds := by
  rintro ⟨i, j, x, y, hij, hx, hy, ho⟩
  obtain ⟨x1, _, _⟩ := exp_get hp hx
  obtain ⟨_, y2, y3⟩ := exp_get hp hy
  have pt : ∀ k, ∀ z ∈ ds.take k, 1 ≤ z.2 := fun k z hz => hp z (List.mem_of_mem_take hz)
  have l1 := exp_len (pt i)
  have l2 := exp_len (pt (j + 1))
  have jl : j < ds.length := (List.getElem?_eq_some_iff.mp hy).1
  have es : ((ds.take (j + 1)).map (·.2)).sum = ((ds.take i).map (·.2)).sum + (((ds.drop i).take (j + 1 - i)).map (·.2)).sum := by
    have e : ds.take (j + 1) = ds.take i ++ (ds.drop i).take (j + 1 - i) := by
      rw [show j + 1 = i + (j + 1 - i) by omega, List.take_add, show i + (j + 1 - i) - i = j + 1 - i by omega]
    rw [e, List.map_append, List.sum_append]
  have le : (expI (ds.take i)).length ≤ (expI (ds.take (j + 1))).length - 1 := by
    have : 1 ≤ (((ds.drop i).take (j + 1 - i)).map (·.2)).sum := by
      have hd : (ds.drop i)[0]? = some x := by rw [List.getElem?_drop]; exact hx
      cases hq : ds.drop i with
      | nil => rw [hq] at hd; cases hd
      | cons z zs =>
        rw [hq] at hd
        cases hd
        rw [show j + 1 - i = (j - i) + 1 by omega, List.take_succ_cons, List.map_cons, List.sum_cons]
        have b1 := hp x (List.mem_of_getElem? hx)
        have b2 : 0 ≤ ((zs.take (j - i)).map (·.2)).sum := sum_nonneg fun w hw => by
          obtain ⟨v, hv, rfl⟩ := List.mem_map.mp hw
          have : v ∈ ds := List.mem_of_mem_drop (i := i) (by rw [hq]; exact List.mem_cons_of_mem _ (List.mem_of_mem_take hv))
          have := hp v this
          omega
        omega
    omega
  have := h _ _ _ _ le x1 y2
  unfold overI at ho
  have c1 : (((expI (ds.take (j + 1))).length - 1 : Nat) : Int) + 1 = ((ds.take i).map (·.2)).sum + (((ds.drop i).take (j + 1 - i)).map (·.2)).sum := by omega
  rw [c1, l1, Int.add_mul] at this
  rw [Int.mul_comm S] at ho
  omega
/-- a finer step, more of them -/
theorem over_mul {F un t : Int} {ds : List Item} {i j : Nat} : overI F un (ds.map fun x => (x.1, x.2 * t)) i j = overI F (t * un) ds i j := by
  unfold overI
  have e : ∀ l : List Item, ((l.map fun x => ((x.1, x.2 * t) : Item)).map (·.2)).sum = (l.map (·.2)).sum * t := by
    intro l
    induction l with
    | nil => simp
    | cons x r ih =>
      rw [List.map_cons, List.map_cons, List.sum_cons, List.map_cons, List.sum_cons, Int.add_mul, ih]
  rw [← List.map_drop, ← List.map_take, e]
  generalize (((ds.drop i).take (j + 1 - i)).map (·.2)).sum = s
  rw [Int.mul_comm s t, ← Int.mul_assoc, Int.mul_comm un t]
theorem slip_mul {F un t u : Int} {ds : List Item} (h : SlipEx F un u (ds.map fun x => (x.1, x.2 * t))) : SlipEx F (t * un) u ds := by
  obtain ⟨i, j, x, y, hij, hx, hy, ho⟩ := h
  rw [List.getElem?_map] at hx hy
  obtain ⟨x', hx', rfl⟩ := Option.map_eq_some_iff.mp hx
  obtain ⟨y', hy', rfl⟩ := Option.map_eq_some_iff.mp hy
  rw [over_mul] at ho
  exact ⟨i, j, x', y', hij, hx', hy', ho⟩
theorem slip_more {F S u v : Int} {ds : List Item} (hm : ∀ {i j : Nat} {x y : Item}, i ≤ j → ds[i]? = some x → ds[j]? = some y → x.1 ≤ y.1) (huv : u ≤ v) (h : SlipEx F S v ds) : SlipEx F S u ds := by
  obtain ⟨i, j, x, y, hij, hx, hy, ho⟩ := h
  have := hm hij hx hy
  have := Int.mul_le_mul_of_nonneg_right huv (show 0 ≤ y.1 - x.1 by omega)
  exact ⟨i, j, x, y, hij, hx, hy, by omega⟩
/-- kept, wait by wait, from no lag on: no slip of the hindmost wheel -/
theorem kept_slip {R S u : Int} (hR : 3 ≤ R) (hS : 1 ≤ S) (hu : 0 ≤ u) : ∀ {ds : List Item} {l now F lag : Int}, Asc ds l → now ≤ l → (∀ x ∈ ds, 1 ≤ x.2) → 0 ≤ lag → keptI R S u ds now F (F - lag) = !slipL (R / 2) S u ds now lag
  | [], _, _, _, _, _, _, _, _ => rfl
  | (t, n) :: r, l, now, F, lag, ha, hl, hp, h0 => by
    obtain ⟨a1, a2, a3⟩ := ha
    have w0 : 0 ≤ u * (t - now) := Int.mul_nonneg hu (by omega)
    have n1 := hp (t, n) List.mem_cons_self
    dsimp only at n1
    have nS : 0 ≤ n * S := Int.mul_nonneg (by omega) (by omega)
    have ew : wayI (F - lag) F (u * (t - now)) = F + n * S - (max 0 (lag - u * (t - now)) + n * S) := by
      unfold wayI
      rw [if_pos (by omega)]
      split <;> omega
    have ih := kept_slip hR hS hu (F := F + n * S) (lag := max 0 (lag - u * (t - now)) + n * S) a3 (show t ≤ t + 1 by omega) (fun x hx => hp x (List.mem_cons_of_mem _ hx)) (by omega)
    unfold keptI slipL
    rw [ew, ih, decide_eq_true (show F + n * S - (max 0 (lag - u * (t - now)) + n * S) - (F + n * S) ≤ (R - 1) / 2 by omega), Bool.and_true, Bool.not_or, Bool.eq_iff_iff]
    simp only [Bool.and_eq_true, decide_eq_true_eq, Bool.not_eq_true', decide_eq_false_iff_not]
    constructor
    · rintro ⟨q1, q2⟩
      exact ⟨by omega, q2⟩
    · rintro ⟨q1, q2⟩
      exact ⟨by omega, q2⟩
/-- whatever the pulls between two are: no loss of any wheel if the hindmost one has no slip -/
theorem sure_slip {R S lo hi : Int} (hR : 3 ≤ R) (hS : 1 ≤ S) (h0 : 0 ≤ lo) (hlh : lo ≤ hi) : ∀ {ds : List Item} {l now F lag k g : Int}, Asc ds l → now ≤ l → (∀ x ∈ ds, 1 ≤ x.2) → 0 ≤ lag → F - lag ≤ g → g ≤ F → (idxI isRisk (spansI R S lo hi ds now F (F - lag, g)) k).isNone = !slipL (R / 2) S lo ds now lag
  | [], _, _, _, _, _, _, _, _, _, _, _, _ => rfl
  | (t, n) :: r, l, now, F, lag, k, g, ha, hl, hp, h1, g1, g2 => by
    obtain ⟨a1, a2, a3⟩ := ha
    have w0 : 0 ≤ lo * (t - now) := Int.mul_nonneg h0 (by omega)
    have w1 : lo * (t - now) ≤ hi * (t - now) := Int.mul_le_mul_of_nonneg_right hlh (by omega)
    have n1 := hp (t, n) List.mem_cons_self
    dsimp only at n1
    have nS : 0 ≤ n * S := Int.mul_nonneg (by omega) (by omega)
    have ed1 : (drawnI F (F - lag, g) (lo * (t - now)) (hi * (t - now))).1 = F + n * S - (max 0 (lag - lo * (t - now)) + n * S) := by
      unfold drawnI
      dsimp only
      split <;> (try split) <;> omega
    have ed2 : (drawnI F (F - lag, g) (lo * (t - now)) (hi * (t - now))).2 ≤ F ∧ (drawnI F (F - lag, g) (lo * (t - now)) (hi * (t - now))).1 ≤ (drawnI F (F - lag, g) (lo * (t - now)) (hi * (t - now))).2 := by
      unfold drawnI
      dsimp only
      constructor
      · split <;> (try split) <;> omega
      · split <;> (try split) <;> (try split) <;> (try split) <;> omega
    rw [spans_cons]
    generalize drawnI F (F - lag, g) (lo * (t - now)) (hi * (t - now)) = d at *
    obtain ⟨d1, d2⟩ := d
    dsimp only at ed1 ed2
    have cl : (max 0 (lag - lo * (t - now)) + n * S) ≥ 0 := by omega
    have ih := fun k => sure_slip hR hS h0 hlh (F := F + n * S) (lag := max 0 (lag - lo * (t - now)) + n * S) (k := k) (g := d2) a3 (show t ≤ t + 1 by omega) (fun x hx => hp x (List.mem_cons_of_mem _ hx)) (by omega) (by omega) (by omega)
    unfold slipL
    generalize max 0 (lag - lo * (t - now)) + n * S = lg at *
    have c2 : (cutK R (F + n * S) (d1, d2)).2 = d2 := if_neg (show ¬ F + n * S + (R - 1) / 2 < d2 by omega)
    by_cases hk : R / 2 < lg
    · rw [decide_eq_true hk, Bool.true_or]
      have c1 : (cutK R (F + n * S) (d1, d2)).1 = F + n * S - R / 2 := if_pos (show F + n * S - R / 2 > d1 by omega)
      split
      · rfl
      · have e : isRisk ((d1, d2), some (cutK R (F + n * S) (d1, d2))) = true := by
          unfold isRisk
          dsimp only
          rw [c1, decide_eq_false (show ¬ d1 = F + n * S - R / 2 by omega)]
          rfl
        unfold idxI
        rw [if_pos e]
        rfl
    · rw [decide_eq_false hk, Bool.false_or]
      have c1 : (cutK R (F + n * S) (d1, d2)).1 = d1 := if_neg (show ¬ F + n * S - R / 2 > d1 by omega)
      have c3 : cutK R (F + n * S) (d1, d2) = (d1, d2) := Prod.ext c1 c2
      rw [c3, if_neg (show ¬ d1 > d2 by omega)]
      have e : isRisk ((d1, d2), some (d1, d2)) = false := by simp [isRisk]
      unfold idxI
      rw [if_neg (by rw [e]; exact Bool.false_ne_true), ed1]
      exact ih (k + 1)
/-! ### the late list that late_drive makes -/
def brT (c a b t : Int) : Int := if t < a ∨ b < t then t else min (max t (a + c)) (max (b - c) (a + c))
theorem br_bd {c a b t : Int} (h0 : 0 ≤ c) (hab : a ≤ b) (hc : 2 * c ≤ b - a + 1) : t - c ≤ brT c a b t ∧ brT c a b t ≤ t + c := by
  unfold brT
  split <;> omega
theorem br_mono {c a b t s : Int} (h0 : 0 ≤ c) (hab : a ≤ b) (hc : 2 * c ≤ b - a + 1) (h : t < s) : brT c a b t ≤ brT c a b s := by
  unfold brT
  split <;> split <;> omega
theorem br_low {c a b t : Int} (h0 : 0 ≤ c) (ha : 0 ≤ a) (hab : a ≤ b) (ht : 0 ≤ t) : 0 ≤ brT c a b t := by
  unfold brT
  split <;> omega
theorem br_ends {c a b : Int} (h0 : 0 ≤ c) (hab : a ≤ b) (hc : 2 * c ≤ b - a + 1) : brT c a b b - brT c a b a = max 0 (b - a - 2 * c) := by
  unfold brT
  rw [if_neg (by omega), if_neg (by omega)]
  omega
def bringU (c p q : Int) (ds : List Item) : List Item := ds.map fun z => (brT c p q z.1, z.2)
theorem bring_zero {p q : Int} {ds : List Item} (h : p ≤ q) : bringU 0 p q ds = ds := by
  unfold bringU
  conv => rhs; rw [← List.map_id ds]
  refine List.map_congr_left fun z _ => ?_
  have : brT 0 p q z.1 = z.1 := by
    unfold brT
    split <;> omega
  rw [this]
  rfl
/-- what late_drive makes of the row that needs the least change -/
def LateM (F S u m : Int) (ds es : List Item) : Prop := LateC m ds es 0 ∧ SlipEx F S u es ∧ (m = 0 → es = ds)
theorem bring_ok {F S u m : Int} {ds : List Item} {i j : Nat} {x y : Item} (hu : 0 ≤ u) (ha : Asc ds 0) (hij : i ≤ j) (hx : ds[i]? = some x) (hy : ds[j]? = some y) (ho : 0 < overI F S ds i j) (e : chU u ds ((i : Int), (j : Int), overI F S ds i j) = m) : LateM F S u m ds (bringU m x.1 y.1 ds) := by
  have xy := asc_lt ha hij hx hy
  have x0 := asc_le ha x (List.mem_of_getElem? hx)
  have m0 : 0 ≤ m := by rw [← e]; exact ch_nonneg
  unfold chU at e
  dsimp only at e
  rw [tkU_get hx, tkU_get hy] at e
  have e2 : (bringU m x.1 y.1 ds).map (·.2) = ds.map (·.2) := by unfold bringU; rw [List.map_map]; rfl
  have key : 2 * m ≤ y.1 - x.1 + 1 ∧ u * max 0 (y.1 - x.1 - 2 * m) < overI F S ds i j := by
    generalize overI F S ds i j = o at *
    split at e
    · rename_i h0
      rw [h0, Int.zero_mul]
      omega
    · unfold changeI at e
      have d1 : 0 ≤ (o - 1) / u := Int.ediv_nonneg (by omega) hu
      have d2 : u * ((o - 1) / u) ≤ o - 1 := by rw [Int.mul_comm]; exact Int.ediv_mul_le _ (by omega)
      have : u * max 0 (y.1 - x.1 - 2 * m) ≤ u * ((o - 1) / u) := Int.mul_le_mul_of_nonneg_left (by omega) hu
      omega
  refine ⟨late_near (f := brT m x.1 y.1) (fun t => br_bd m0 xy key.1) (fun t s => br_mono m0 xy key.1) ha fun z hz => br_low m0 x0 xy (asc_le ha z hz), ⟨i, j, (brT m x.1 y.1 x.1, x.2), (brT m x.1 y.1 y.1, y.2), hij, by unfold bringU; rw [List.getElem?_map, hx]; rfl, by unfold bringU; rw [List.getElem?_map, hy]; rfl, ?_⟩, fun h => ?_⟩
  · rw [over_map e2]
    dsimp only
    rw [br_ends m0 xy key.1]
    exact key.2
  · subst h
    exact bring_zero xy
def g_brought_together : Gs := fun cs M Q E => match cs, M with
  | [.d (.list xs), .d (.int i), .d (.int j), .d (.int c)], [] => ∃ (ds : List Item) (a b : Nat) (x y : Item), xs = ds.map itD ∧ (i = a ∧ j = b ∧ a ≤ b ∧ ds[a]? = some x ∧ ds[b]? = some y ∧ ds.length ≤ 60 ∧ Asc ds 0) ∧ retL Q ((bringU c x.1 y.1 ds).map itD)
  | _, _ => False
def g_late_drive : Gs := fun cs M Q E => match cs, M with
  | [.d (.tuple [.int R, .int S]), .d (.int u), .d (.list xs), .d (.int b)], [] => ∃ ds : List Item, xs = ds.map itD ∧ (PreV R S u ds ∧ 0 ≤ b) ∧ (rowsI (R / 2) S ds = [] → retD Q .none) ∧ (∀ m, MinU (R / 2) S u ds m → b < m → retD Q .none) ∧ ∀ m es, MinU (R / 2) S u ds m → m ≤ b → LateM (R / 2) S u m ds es → retL Q (es.map itD)
  | _, _ => False
theorem asc_pairs : ∀ {ds : List Item} {l : Int} {i k : Nat} {x z : Item}, Asc ds l → ds[i]? = some x → ds[k]? = some z → (k < i → z.1 < x.1) ∧ (i < k → x.1 < z.1)
  | [], _, _, _, _, _, _, h, _ => by cases h
  | (t, n) :: r, l, i, k, x, z, ⟨h1, h2, h3⟩, hx, hz => by
    cases i with
    | zero =>
      cases hx
      cases k with
      | zero => exact ⟨fun h => by omega, fun h => by omega⟩
      | succ k =>
        have := asc_le h3 z (List.mem_of_getElem? (show r[k]? = some z from hz))
        exact ⟨fun h => by omega, fun _ => by dsimp only; omega⟩
    | succ i =>
      cases k with
      | zero =>
        cases hz
        have := asc_le h3 x (List.mem_of_getElem? (show r[i]? = some x from hx))
        exact ⟨fun _ => by dsimp only; omega, fun h => by omega⟩
      | succ k =>
        have := asc_pairs h3 (show r[i]? = some x from hx) (show r[k]? = some z from hz)
        exact ⟨fun h => this.1 (by omega), fun h => this.2 (by omega)⟩
theorem bring_cut {c : Int} {ds : List Item} {i j : Nat} {x y : Item} (ha : Asc ds 0) (hij : i ≤ j) (hx : ds[i]? = some x) (hy : ds[j]? = some y) : bringU c x.1 y.1 ds = ds.take i ++ ((ds.drop i).take (j + 1 - i)).map (fun z => ((min (max z.1 (x.1 + c)) (max (y.1 - c) (x.1 + c)), z.2) : Item)) ++ ds.drop (j + 1) := by
  have hj : j < ds.length := (List.getElem?_eq_some_iff.mp hy).1
  refine List.ext_getElem? fun k => ?_
  unfold bringU
  rw [List.getElem?_map]
  have l1 : (ds.take i).length = i := by rw [List.length_take]; omega
  have l2 : (((ds.drop i).take (j + 1 - i)).map (fun z => ((min (max z.1 (x.1 + c)) (max (y.1 - c) (x.1 + c)), z.2) : Item))).length = j + 1 - i := by rw [List.length_map, List.length_take, List.length_drop]; omega
  have l3 : (ds.take i ++ ((ds.drop i).take (j + 1 - i)).map (fun z => ((min (max z.1 (x.1 + c)) (max (y.1 - c) (x.1 + c)), z.2) : Item))).length = j + 1 := by rw [List.length_append, l1, l2]; omega
  by_cases k1 : k < i
  · rw [List.getElem?_append_left (by omega), List.getElem?_append_left (by omega), List.getElem?_take_of_lt k1]
    cases hz : ds[k]? with
    | none => rfl
    | some z =>
      have := (asc_pairs ha hx hz).1 k1
      show some (brT c x.1 y.1 z.1, z.2) = some z
      unfold brT
      rw [if_pos (.inl this)]
  · by_cases k2 : k < j + 1
    · rw [List.getElem?_append_left (by omega), List.getElem?_append_right (by omega), l1, List.getElem?_map, List.getElem?_take_of_lt (by omega), List.getElem?_drop, show i + (k - i) = k by omega]
      cases hz : ds[k]? with
      | none => rfl
      | some z =>
        have a1 := asc_lt ha (show i ≤ k by omega) hx hz
        have a2 := asc_lt ha (show k ≤ j by omega) hz hy
        show some (brT c x.1 y.1 z.1, z.2) = some _
        unfold brT
        rw [if_neg (by omega)]
    · rw [List.getElem?_append_right (by omega), l3, List.getElem?_drop, show j + 1 + (k - (j + 1)) = k by omega]
      cases hz : ds[k]? with
      | none => rfl
      | some z =>
        have := (asc_pairs ha hy hz).2 (by omega)
        show some (brT c x.1 y.1 z.1, z.2) = some z
        unfold brT
        rw [if_pos (.inr this)]
/-! ### the laws' drives: specs that tell that they lose nothing -/
def g_aheadN : Gs := fun cs M Q E => match cs, M with
  | [.d (.tuple [.int R, .int S]), .d (.int u), .d (.int 0), .d (.int n)], [] => ((WhI R S ∧ R ≤ 10 ^ 31) ∧ (1 ≤ u ∧ u ≤ 10 ^ 40) ∧ 0 ≤ n ∧ n ≤ 60) ∧ ∀ L : List Item, AhP (n * R) n.toNat L → (∀ x ∈ L, -(10 ^ 40) ≤ x.2 ∧ x.2 ≤ 10 ^ 40) → NsP (R / 2) S u (L.map (·.1)) → retL Q (L.map itD)
  | _, _ => False
def g_itemsN : Gs := fun cs M Q E => match cs, M with
  | [.d (.list xs)], [] => ∃ (L : List Item) (T : Int), xs = L.map itD ∧ (AhP T L.length L ∧ L.length ≤ 60 ∧ T ≤ 10 ^ 40) ∧ ∀ ds, ItsP T L.length ds → expI ds = L.map (·.1) → retL Q (ds.map itD)
  | _, _ => False
def g_laterN : Gs := fun cs M Q E => match cs, M with
  | [.r 0, .d (.tuple [.int R, .int S]), .d (.int u), .d (.int n), .d (.int far)], [.live [.int a, .int b, .int c]] => ((SrcOk a b c ∧ c + 2 * n ≤ 10 ^ 12) ∧ (WhI R S ∧ R ≤ 10 ^ 31) ∧ (1 ≤ u ∧ u ≤ 10 ^ 40) ∧ (0 ≤ n ∧ n ≤ 60) ∧ 0 ≤ far ∧ far ≤ 10 ^ 31) ∧ ∀ ds a' c', ItsP (n * (R + far + 1)) n.toNat ds → (expI ds).length = n.toNat → NsP (R / 2) S u (expI ds) → 0 ≤ a' → c ≤ c' → c' ≤ c + 2 * n → retLR Q [.int a', .int b, .int c'] (ds.map itD)
  | _, _ => False
theorem exp_app {a b : List Item} : expI (a ++ b) = expI a ++ expI b := List.flatMap_append
theorem exp_one {t n : Int} : expI [(t, n)] = List.replicate n.toNat t := by
  rw [exp_cons]
  exact List.append_nil _
theorem ns_snoc {F S u m g : Int} {L : List Item} {i : Nat} (h : NsP F S u (L.map (·.1))) (hl : L.length = i) (hg : ((i : Int) + 1) * S - F ≤ g ∧ g ≤ i * S) (hn : ∀ (k : Nat) (z : Item), L[k]? = some z → g ≤ k * S + u * (m - z.1)) : NsP F S u ((L ++ [(m, g)]).map (·.1)) := by
  intro a b x y hab hx hy
  rw [List.map_append] at hx hy
  have ll : (L.map (·.1)).length = i := by rw [List.length_map]; exact hl
  by_cases hb : b < i
  · rw [List.getElem?_append_left (by omega)] at hx hy
    exact h a b x y hab hx hy
  · have eb : b = i := by
      have := (List.getElem?_eq_some_iff.mp hy).1
      rw [List.length_append, ll] at this
      simp at this
      omega
    subst eb
    rw [List.getElem?_append_right (by omega), ll, Nat.sub_self] at hy
    cases hy
    by_cases ha : a < L.length
    · rw [List.getElem?_append_left (by omega), List.getElem?_map] at hx
      obtain ⟨z, hz, rfl⟩ := Option.map_eq_some_iff.mp hx
      have := hn a z hz
      dsimp only
      omega
    · have ea : a = b := by omega
      subst ea
      rw [List.getElem?_append_right (by omega), ll, Nat.sub_self] at hx
      cases hx
      rw [Int.sub_self, Int.mul_zero]
      omega
theorem nh_snoc {S u m g : Int} {L : List Item} {i : Nat} (hl : L.length = i) (hg : g ≤ i * S) (hn : ∀ (k : Nat) (z : Item), L[k]? = some z → g ≤ k * S + u * (m - z.1)) : ∀ (k : Nat) (z : Item), (L ++ [(m, g)])[k]? = some z → g ≤ k * S + u * (m - z.1) := by
  intro k z hz
  by_cases hk : k < i
  · rw [List.getElem?_append_left (by omega)] at hz
    exact hn k z hz
  · have ek : k = i := by
      have := (List.getElem?_eq_some_iff.mp hz).1
      rw [List.length_append, hl] at this
      simp at this
      omega
    subst ek
    rw [List.getElem?_append_right (by omega), hl, Nat.sub_self] at hz
    cases hz
    rw [Int.sub_self, Int.mul_zero]
    omega
theorem dl_snoc {L rows : List Item} {i : Nat} {t h e g : Int} (rl : rows.length = i) (hd : L[i]? = some (t, h)) (rk : ∀ (k l : Nat) (x y z w : Item), k ≤ l → rows[k]? = some x → rows[l]? = some y → L[k]? = some z → L[l]? = some w → w.1 - z.1 ≤ y.1 - x.1) (re : ∀ (k : Nat) (x z : Item), rows[k]? = some x → L[k]? = some z → x.1 ≤ z.1 + e) : ∀ (k l : Nat) (x y z w : Item), k ≤ l → (rows ++ [(t + e, g)])[k]? = some x → (rows ++ [(t + e, g)])[l]? = some y → L[k]? = some z → L[l]? = some w → w.1 - z.1 ≤ y.1 - x.1 := by
  intro k l x y z w hkl hx hy hz hw
  by_cases hl : l < i
  · rw [List.getElem?_append_left (by omega)] at hx hy
    exact rk k l x y z w hkl hx hy hz hw
  · have el : l = i := by
      have := (List.getElem?_eq_some_iff.mp hy).1
      rw [List.length_append, rl] at this
      simp at this
      omega
    subst el
    rw [List.getElem?_append_right (by omega), rl, Nat.sub_self] at hy
    cases hy
    rw [hd] at hw
    cases hw
    by_cases hk : k < l
    · rw [List.getElem?_append_left (by omega)] at hx
      have := re k x z hx hz
      dsimp only
      omega
    · have ek : k = l := by omega
      subst ek
      rw [List.getElem?_append_right (by omega), rl, Nat.sub_self] at hx
      cases hx
      rw [hd] at hz
      cases hz
      omega
theorem de_snoc {L rows : List Item} {i : Nat} {t h e g : Int} (rl : rows.length = i) (hd : L[i]? = some (t, h)) (re : ∀ (k : Nat) (x z : Item), rows[k]? = some x → L[k]? = some z → x.1 ≤ z.1 + e) : ∀ (k : Nat) (x z : Item), (rows ++ [(t + e, g)])[k]? = some x → L[k]? = some z → x.1 ≤ z.1 + e := by
  intro k x z hx hz
  by_cases hk : k < i
  · rw [List.getElem?_append_left (by omega)] at hx
    exact re k x z hx hz
  · have ek : k = i := by
      have := (List.getElem?_eq_some_iff.mp hx).1
      rw [List.length_append, rl] at this
      simp at this
      omega
    subst ek
    rw [List.getElem?_append_right (by omega), rl, Nat.sub_self] at hx
    cases hx
    rw [hd] at hz
    cases hz
    dsimp only
    omega
theorem ns_later {F S u : Int} {L rows : List Item} (hu : 0 ≤ u) (hl : rows.length = L.length) (h : NsP F S u (L.map (·.1))) (rk : ∀ (k l : Nat) (x y z w : Item), k ≤ l → rows[k]? = some x → rows[l]? = some y → L[k]? = some z → L[l]? = some w → w.1 - z.1 ≤ y.1 - x.1) : NsP F S u (rows.map (·.1)) := by
  intro i j x y hij hx hy
  rw [List.getElem?_map] at hx hy
  obtain ⟨x', hx', rfl⟩ := Option.map_eq_some_iff.mp hx
  obtain ⟨y', hy', rfl⟩ := Option.map_eq_some_iff.mp hy
  have jl := (List.getElem?_eq_some_iff.mp hy').1
  obtain ⟨z, hz⟩ : ∃ z, L[i]? = some z := ⟨_, List.getElem?_eq_getElem (by omega)⟩
  obtain ⟨w, hw⟩ : ∃ w, L[j]? = some w := ⟨_, List.getElem?_eq_getElem (by omega)⟩
  have h1 := h i j z.1 w.1 hij (by rw [List.getElem?_map, hz]; rfl) (by rw [List.getElem?_map, hw]; rfl)
  have h2 := rk i j x' y' z w hij hx' hy' hz hw
  have := Int.mul_le_mul_of_nonneg_left h2 hu
  omega
theorem cut_two (xs : List PyData) (j k : Nat) (hj : j ≤ xs.length) (hk : k ≤ xs.length) : Kt.cutD xs (some (j : Int)) (some (k : Int)) = (xs.drop j).take (k - j) := by
  unfold Kt.cutD
  rw [HT.sIx_nat, HT.sIx_nat, Nat.min_eq_left hj, Nat.min_eq_left hk]
theorem cut_from (xs : List PyData) (j : Nat) (hj : j ≤ xs.length) : Kt.cutD xs (some (j : Int)) none = xs.drop j := by
  unfold Kt.cutD
  rw [HT.sIx_nat, HT.sIx_none, Nat.min_eq_left hj, List.take_of_length_le (by rw [List.length_drop]; omega)]
def clD (lo hi : Int) : PyData → PyData
  | .tuple [.int t, .int n] => .tuple [.int (min (max t lo) hi), .int n]
  | d => d
theorem exp_ix : ∀ {ds : List Item} {i : Nat} {t : Int}, (expI ds)[i]? = some t → ∃ (a : Nat) (x : Item), ds[a]? = some x ∧ x.1 = t ∧ (expI (ds.take a)).length ≤ i ∧ i < (expI (ds.take (a + 1))).length
  | [], i, t, h => by cases h
  | y :: r, i, t, h => by
    rw [exp_cons] at h
    by_cases hi : i < y.2.toNat
    · rw [List.getElem?_append_left (by rw [List.length_replicate]; exact hi), List.getElem?_replicate, if_pos hi] at h
      cases h
      refine ⟨0, y, rfl, rfl, Nat.zero_le _, ?_⟩
      rw [List.take_succ_cons, exp_cons, List.length_append, List.length_replicate]
      omega
    · rw [List.getElem?_append_right (by rw [List.length_replicate]; omega), List.length_replicate] at h
      obtain ⟨a, x, h1, h2, h3, h4⟩ := exp_ix h
      refine ⟨a + 1, x, h1, h2, ?_, ?_⟩
      · rw [List.take_succ_cons, exp_cons, List.length_append, List.length_replicate]
        omega
      · rw [List.take_succ_cons, exp_cons, List.length_append, List.length_replicate]
        omega
theorem exp_mono {ds : List Item} {a b : Nat} (h : a ≤ b) : (expI (ds.take a)).length ≤ (expI (ds.take b)).length := by
  have e : ds.take b = ds.take a ++ (ds.drop a).take (b - a) := by
    rw [show b = a + (b - a) by omega, List.take_add, show a + (b - a) - a = b - a by omega]
  rw [e, exp_app, List.length_append]
  omega
theorem slip_ns {F S u : Int} {ds : List Item} (hS : 0 ≤ S) (hp : ∀ x ∈ ds, 1 ≤ x.2) (h : ¬ SlipEx F S u ds) : NsP F S u (expI ds) := by
  intro i j x y hij hx hy
  obtain ⟨a, p, ha, rfl, a1, a2⟩ := exp_ix hx
  obtain ⟨b, q, hb, rfl, b1, b2⟩ := exp_ix hy
  have hab : a ≤ b := by
    by_cases hc : a ≤ b
    · exact hc
    · have := exp_mono (ds := ds) (show b + 1 ≤ a by omega)
      omega
  have ho : ¬ u * (q.1 - p.1) < overI F S ds a b := fun ho => h ⟨a, b, p, q, hab, ha, hb, ho⟩
  unfold overI at ho
  have pt : ∀ k, ∀ z ∈ ds.take k, 1 ≤ z.2 := fun k z hz => hp z (List.mem_of_mem_take hz)
  have l1 := exp_len (pt a)
  have l2 := exp_len (pt (b + 1))
  have es : ((ds.take (b + 1)).map (·.2)).sum = ((ds.take a).map (·.2)).sum + (((ds.drop a).take (b + 1 - a)).map (·.2)).sum := by
    have e : ds.take (b + 1) = ds.take a ++ (ds.drop a).take (b + 1 - a) := by
      rw [show b + 1 = a + (b + 1 - a) by omega, List.take_add, show a + (b + 1 - a) - a = b + 1 - a by omega]
    rw [e, List.map_append, List.sum_append]
  generalize (((ds.drop a).take (b + 1 - a)).map (·.2)).sum = m at *
  have hm : ((j : Int) + 1) - i ≤ m := by omega
  have := Int.mul_le_mul_of_nonneg_left hm hS
  rw [Int.mul_sub] at this
  have e1 := Int.mul_comm S ((j : Int) + 1)
  have e2 := Int.mul_comm S (i : Int)
  omega
theorem slip_exp {F S u : Int} {ds es : List Item} (hS : 0 ≤ S) (h1 : ∀ x ∈ ds, 1 ≤ x.2) (h2 : ∀ x ∈ es, 1 ≤ x.2) (e : expI ds = expI es) : SlipEx F S u ds ↔ SlipEx F S u es := by
  constructor
  · intro h
    refine Classical.byContradiction fun hn => ?_
    exact ns_slip h1 (by rw [e]; exact slip_ns hS h2 hn) h
  · intro h
    refine Classical.byContradiction fun hn => ?_
    exact ns_slip h2 (by rw [← e]; exact slip_ns hS h1 hn) h
/-- each tick changed by at most off, none below 0 -/
def isL (off : Int) : List Item → List Item → Bool
  | x :: r, y :: s => decide (x.1 - y.1 ≤ off) && decide (y.1 - x.1 ≤ off) && decide (0 ≤ x.1) && isL off r s
  | _, _ => true
theorem isL_late {off : Int} : ∀ {es ds : List Item} {l : Int}, isL off es ds = true → es.map (·.2) = ds.map (·.2) → (es.Pairwise fun x y => x.1 ≤ y.1) → (∀ x ∈ es, l ≤ x.1) → LateC off ds es l
  | [], [], _, _, _, _, _ => trivial
  | [], _ :: _, _, _, h, _, _ => by cases h
  | _ :: _, [], _, _, h, _, _ => by cases h
  | (t, n) :: r, (s, m) :: q, l, h, e, pw, hl => by
    rw [List.map_cons, List.map_cons, List.cons.injEq] at e
    unfold isL at h
    rw [Bool.and_eq_true, Bool.and_eq_true, Bool.and_eq_true, decide_eq_true_eq, decide_eq_true_eq, decide_eq_true_eq] at h
    obtain ⟨⟨⟨h1, h2⟩, h3⟩, h4⟩ := h
    dsimp only at h1 h2 h3
    have pc : ∀ x ∈ r, t ≤ x.1 := fun x hx => List.rel_of_pairwise_cons pw hx
    refine ⟨⟨e.1, hl (t, n) List.mem_cons_self, by omega, by omega⟩, isL_late h4 e.2 (List.Pairwise.of_cons pw) pc⟩
theorem late_pw {off : Int} : ∀ {ds es : List Item} {l : Int}, LateC off ds es l → es.Pairwise fun x y => x.1 ≤ y.1
  | [], [], _, _ => .nil
  | (t, n) :: r, (t', n') :: r', l, ⟨_, h⟩ => .cons (fun y hy => late_low h y hy) (late_pw h)
  | [], _ :: _, _, h => h.elim
  | _ :: _, [], _, h => h.elim
theorem isL_snoc {off : Int} {x y : Item} : ∀ {a b : List Item}, a.length = b.length → isL off (a ++ [x]) (b ++ [y]) = (isL off a b && (decide (x.1 - y.1 ≤ off) && decide (y.1 - x.1 ≤ off) && decide (0 ≤ x.1)))
  | [], [], _ => by
    show (_ && true) = (true && _)
    rw [Bool.and_true, Bool.true_and]
  | [], _ :: _, h => by cases h
  | _ :: _, [], h => by cases h
  | (t, n) :: r, (s, m) :: q, h => by
    have ih := isL_snoc (off := off) (x := x) (y := y) (a := r) (b := q) (by simpa using h)
    show (_ && isL off (r ++ [x]) (q ++ [y])) = _
    rw [ih, ← Bool.and_assoc]
    rfl
theorem min_uniq {F S u m m' : Int} {ds : List Item} (h : MinU F S u ds m) (h' : MinU F S u ds m') : m = m' := by
  obtain ⟨r, hr, e, hm⟩ := h
  obtain ⟨r', hr', e', hm'⟩ := h'
  have := hm r' hr'
  have := hm' r hr
  omega
theorem rows_map {F S : Int} {ds es : List Item} (h : es.map (·.2) = ds.map (·.2)) : rowsI F S es = rowsI F S ds := by
  have el : es.length = ds.length := by have := congrArg List.length h; rw [List.length_map, List.length_map] at this; exact this
  unfold rowsI rowsAt
  rw [el]
  have e : ∀ i j, overI F S es i j = overI F S ds i j := fun i j => over_map h
  simp only [e]
theorem min_delay {F S u d m : Int} {ds : List Item} (h : MinU F S u (ds.map fun x => (x.1 + d, x.2)) m) : MinU F S u ds m := by
  have e2 : (ds.map fun x => ((x.1 + d, x.2) : Item)).map (·.2) = ds.map (·.2) := by rw [List.map_map]; rfl
  have er := rows_map (F := F) (S := S) e2
  have ec : ∀ row ∈ rowsI F S ds, chU u (ds.map fun x => (x.1 + d, x.2)) row = chU u ds row := fun row hr => by
    obtain ⟨i, j, rfl, hij, hj, ho⟩ := rows_mem.mp hr
    obtain ⟨x, hx⟩ : ∃ x, ds[i]? = some x := ⟨_, List.getElem?_eq_getElem (by omega)⟩
    obtain ⟨y, hy⟩ : ∃ y, ds[j]? = some y := ⟨_, List.getElem?_eq_getElem hj⟩
    unfold chU
    dsimp only
    rw [tkU_get hx, tkU_get hy, tkU_get (x := (x.1 + d, x.2)) (by rw [List.getElem?_map, hx]; rfl), tkU_get (x := (y.1 + d, y.2)) (by rw [List.getElem?_map, hy]; rfl)]
    split
    · rfl
    · unfold changeI
      dsimp only
      rw [show y.1 + d - (x.1 + d) = y.1 - x.1 by omega]
  unfold MinU at h ⊢
  rw [er] at h
  obtain ⟨row, hr, e, hm⟩ := h
  refine ⟨row, hr, by rw [← ec row hr]; exact e, fun x hx => ?_⟩
  rw [← ec x hx]
  exact hm x hx
theorem asc_delay {d : Int} (h0 : 0 ≤ d) : ∀ {ds : List Item} {l : Int}, Asc ds l → Asc (ds.map fun x => (x.1 + d, x.2)) (l + d)
  | [], _, _ => trivial
  | (t, n) :: r, l, ⟨h1, h2, h3⟩ => ⟨by omega, h2, by
      have := asc_delay h0 h3
      rw [show t + 1 + d = t + d + 1 by omega] at this
      exact this⟩
theorem asc_low : ∀ {ds : List Item} {l m : Int}, Asc ds l → m ≤ l → Asc ds m
  | [], _, _, _, _ => trivial
  | (t, n) :: r, l, m, ⟨h1, h2, h3⟩, h => ⟨by omega, h2, h3⟩
/-- no late list that is changed by less than the least change has a slip -/
theorem no_late {F S u off : Int} {ds es : List Item} (hu : 0 ≤ u) (hoff : 0 ≤ off) (h : rowsI F S ds = [] ∨ MinU F S u ds (off + 1)) (hl : LateC off ds es 0) : ¬ SlipEx F S u es := fun hs => by
  obtain ⟨row, hr, hc⟩ := late_row hu hoff hl hs
  rcases h with h | ⟨_, _, _, hm⟩
  · rw [h] at hr
    cases hr
  · have := hm row hr
    omega
theorem sure_iff {R S u top : Int} {es ds' : List Item} (hR : 3 ≤ R) (hS : 1 ≤ S) (hu : 0 ≤ u) (ht : u ≤ top) (h1 : ∀ x ∈ es, 1 ≤ x.2) (ha : Asc ds' 0) (h2 : ∀ x ∈ ds', 1 ≤ x.2) (e : expI ds' = expI es) : (idxI isRisk (spansI R S u top ds' 0 0 (0, 0)) 0).isNone = true ↔ ¬ SlipEx (R / 2) S u es := by
  have h := sure_slip hR hS hu ht (F := 0) (lag := 0) (g := 0) (k := 0) ha (Int.le_refl 0) h2 (Int.le_refl 0) (by omega) (by omega)
  rw [Int.sub_zero] at h
  rw [h, ← slip_exp (by omega) h2 h1 e, ← slip_ex hu fun x hx => asc_le ha x hx]
  cases slipL (R / 2) S u ds' 0 0 <;> simp
theorem kept_iff {R S u : Int} {es ds' : List Item} (hR : 3 ≤ R) (hS : 1 ≤ S) (hu : 0 ≤ u) (h1 : ∀ x ∈ es, 1 ≤ x.2) (ha : Asc ds' 0) (h2 : ∀ x ∈ ds', 1 ≤ x.2) (e : expI ds' = expI es) : (slI 0 0 (lostsI R S u ds' 0)).isEmpty = true ↔ ¬ SlipEx (R / 2) S u es := by
  have hk := kept_slip hR hS hu (F := 0) (lag := 0) ha (Int.le_refl 0) h2 (Int.le_refl 0)
  rw [Int.sub_zero] at hk
  have el : lostsI R S u ds' 0 = lossL R S u ds' 0 0 0 := by
    unfold lostsI lossL plI
    rw [List.map_map]
    rfl
  rw [← slip_exp (by omega) h2 h1 e, ← slip_ex hu fun x hx => asc_le ha x hx, el]
  rcases one_pull hR hu ds' 0 0 0 0 0 ha (Int.le_refl 0) ⟨by omega, by omega⟩ with ⟨k1, _, k2, _⟩ | ⟨k1, j, x, rest, k2, _⟩
  · rw [hk] at k1
    rw [k2]
    cases hs : slipL (R / 2) S u ds' 0 0 with
    | true => rw [hs] at k1; cases k1
    | false => simp
  · rw [hk] at k1
    rw [k2]
    cases hs : slipL (R / 2) S u ds' 0 0 with
    | true => simp
    | false => rw [hs] at k1; cases k1
/-- items at ticks that do not fall, with turns ahead -/
def WkOk (T N : Int) (es : List Item) : Prop := es.length ≤ 60 ∧ (es.Pairwise fun x y => x.1 ≤ y.1) ∧ ∀ x ∈ es, (0 ≤ x.1 ∧ x.1 ≤ T) ∧ 1 ≤ x.2 ∧ x.2 ≤ N
def DoP (es ds : List Item) (T N : Int) : Prop := ds.length ≤ 60 ∧ Asc ds 0 ∧ (∀ x ∈ ds, (0 ≤ x.1 ∧ x.1 ≤ T) ∧ 1 ≤ x.2 ∧ x.2 ≤ 60 * N) ∧ expI ds = expI es
def LgOk (ds : List Item) : Prop := ds ≠ [] ∧ ds.length ≤ 60 ∧ Asc ds 0 ∧ ∀ x ∈ ds, (0 ≤ x.1 ∧ x.1 ≤ 10 ^ 33) ∧ 1 ≤ x.2 ∧ x.2 ≤ 10 ^ 31
theorem wk_late {off : Int} {ds es : List Item} (hl : LateC off ds es 0) (h : LgOk ds) (ho : off ≤ 10 ^ 33) : WkOk (2 * 10 ^ 33) (10 ^ 31) es := by
  obtain ⟨hne, hn, ha, hb⟩ := h
  refine ⟨by rw [late_len hl]; exact hn, late_pw hl, fun x hx => ?_⟩
  obtain ⟨k, hk⟩ := List.mem_iff_getElem?.mp hx
  obtain ⟨y, hy, y1, y2⟩ := late_get hl hk
  have b1 := hb y (List.mem_of_getElem? hy)
  have b2 := late_low hl x hx
  have b3 : x.2 ∈ ds.map (·.2) := by rw [← late_map hl]; exact List.mem_map_of_mem hx
  obtain ⟨z, hz, ez⟩ := List.mem_map.mp b3
  have b4 := hb z hz
  rw [← ez]
  omega
theorem do_play {es ds' : List Item} {R S u : Int} (dp : DoP es ds' (2 * 10 ^ 33) (10 ^ 31)) (wh : WhI R S) (hR : R ≤ 10 ^ 31) (hu : 0 ≤ u) (hu2 : u ≤ 10 ^ 33) : PlOk R S u 0 ds' := by
  obtain ⟨d1, d2, d3, _⟩ := dp
  obtain ⟨w1, w2, w3⟩ := id wh
  refine ⟨wh, by omega, hu, ⟨by omega, by omega⟩, ⟨by omega, by omega⟩, d1, d2, fun x hx => ?_⟩
  have := d3 x hx
  exact ⟨⟨by omega, by omega⟩, by omega, by omega⟩
theorem nr_len {M : Mem} {b a c : Int} (hm : At 0 M b a c) : Cell.r M.length ≠ .r 0 := by
  intro h
  injection h with h
  have := hm.lt
  omega
theorem nd0 {x : PyData} : Cell.d x ≠ .r 0 := by
  intro h
  cases h
theorem no_min {F S u m : Int} {ds : List Item} (e : rowsI F S ds = []) (h : MinU F S u ds m) : False := by
  obtain ⟨r, hr, _⟩ := h
  rw [e] at hr
  cases hr
theorem wh400 : WhI 400 100 := ⟨by decide, by decide, by decide⟩
theorem pre1 : PreV 400 100 20 [(0, 1), (10, 1), (20, 1)] := ⟨wh400, by decide +kernel, by decide, by decide +kernel, by decide, ⟨by decide, by decide, by decide, by decide, by decide, by decide, trivial⟩, by decide +kernel⟩
theorem rows1 : rowsI (400 / 2) 100 [(0, 1), (10, 1), (20, 1)] = [(0, 2, 100)] := by rfl
theorem min1 {m : Int} (h : MinU (400 / 2) 100 20 [(0, 1), (10, 1), (20, 1)] m) : m = 8 := by
  obtain ⟨row, hr, e, _⟩ := h
  rw [rows1] at hr
  rw [List.mem_singleton.mp hr] at e
  rw [← e]
  rfl
/-- the drive with the finer step -/
theorem lg_mul {T t un u F : Int} {n : Nat} {ds : List Item} (ht : 1 ≤ t) (ht2 : t ≤ 10 ^ 29) (hn : n ≤ 60) (hT : T ≤ 10 ^ 33) (its : ItsP T n ds) (h1 : 1 ≤ (expI ds).length) (ns : NsP F (t * un) u (expI ds)) : LgOk (ds.map fun x => (x.1, x.2 * t)) ∧ ¬ SlipEx F un u (ds.map fun x => (x.1, x.2 * t)) := by
  obtain ⟨i1, i2, i3⟩ := its
  refine ⟨⟨fun e => ?_, by rw [List.length_map]; omega, asc_mul ht i2 fun x hx => (i3 x hx).2.1, fun x hx => ?_⟩, fun h => ns_slip (fun x hx => (i3 x hx).2.1) ns (slip_mul h)⟩
  · have : ds = [] := List.map_eq_nil_iff.mp e
    rw [this] at h1
    simp [expI] at h1
  · obtain ⟨y, hy, rfl⟩ := List.mem_map.mp hx
    have b1 := i3 y hy
    have b2 := asc_le i2 y hy
    have m1 := Int.mul_le_mul_of_nonneg_right b1.2.2 (show 0 ≤ t by omega)
    have m2 := Int.mul_le_mul_of_nonneg_right b1.2.1 (show 0 ≤ t by omega)
    have m3 := Int.mul_le_mul_of_nonneg_right (show ((n : Nat) : Int) ≤ 60 by omega) (show 0 ≤ t by omega)
    dsimp only
    omega
section
variable {M : Mem} {Q : Qx} {ρ : Rho} {Wh : Xc → Rho → Mem → Prop} {n kk : Nat} {a b c : Int}
theorem w_laterNG {R S u m far : Int} (hn : 5 = kk) (hm : At n M b a c) (pre : (SrcOk a b c ∧ c + 2 * m ≤ 10 ^ 12) ∧ (WhI R S ∧ R ≤ 10 ^ 31) ∧ (1 ≤ u ∧ u ≤ 10 ^ 40) ∧ (0 ≤ m ∧ m ≤ 60) ∧ 0 ≤ far ∧ far ≤ 10 ^ 31)
    (h : ∀ ds k a' c' M', ItsP (m * (R + far + 1)) m.toNat ds → (expI ds).length = m.toNat → NsP (R / 2) S u (expI ds) → 0 ≤ a' → c ≤ c' → c' ≤ c + 2 * m → At n M' b a' c' → n ≠ k → M'[k]? = some (.live (ds.map itD)) → Q (.r k) M') : gCallR kk g_laterN Wh ρ Q [.r n, .d (.tuple [.int R, .int S]), .d (.int u), .d (.int m), .d (.int far)] M := by
  refine w_gcallR hn rfl hm ?_
  refine ⟨pre, fun ds a' c' h1 h2 h3 h4 h5 h6 => w_retLR (h ds M.length a' c' _ h1 h2 h3 h4 h5 h6 (At.app (at_set hm)) (by have := hm.lt; omega) ?_)⟩
  have := @new_at (M.set n (.live [.int a', .int b, .int c'])) (.live (ds.map itD))
  rw [List.length_set] at this
  exact this
end
/-! ### sums at each tick of items at ticks that do not fall -/
def mergeI : List Item → List Item
  | [] => []
  | (t, n) :: r => match mergeI r with
    | (s, m) :: q => if s = t then (t, n + m) :: q else (t, n) :: (s, m) :: q
    | [] => [(t, n)]
theorem merge_ok : ∀ {es : List Item} {l : Int}, (es.Pairwise fun x y => x.1 ≤ y.1) → (∀ x ∈ es, l ≤ x.1 ∧ 1 ≤ x.2) →
    (mergeI es).length ≤ es.length ∧ expI (mergeI es) = expI es ∧ Asc (mergeI es) l ∧ (∀ t, (turnsAt t (mergeI es)).sum = (turnsAt t es).sum) ∧ ∀ x ∈ mergeI es, 1 ≤ x.2 ∧ (∃ y ∈ es, y.1 = x.1) ∧ x.2 ≤ (es.map (·.2)).sum
  | [], l, _, _ => ⟨Nat.le_refl _, rfl, trivial, fun _ => rfl, fun x hx => by cases hx⟩
  | (t, n) :: r, l, pw, hl => by
    have pc : ∀ x ∈ r, t ≤ x.1 := fun x hx => List.rel_of_pairwise_cons pw hx
    obtain ⟨i1, i2, i3, i4, i5⟩ := merge_ok (es := r) (l := t) (List.Pairwise.of_cons pw) fun x hx => ⟨pc x hx, (hl x (List.mem_cons_of_mem _ hx)).2⟩
    have h0 := hl (t, n) List.mem_cons_self
    dsimp only at h0
    have ts : ∀ t' (x : Item) (q : List Item), (turnsAt t' (x :: q)).sum = (if x.1 = t' then x.2 else 0) + (turnsAt t' q).sum := fun t' x q => by
      unfold turnsAt
      by_cases h : x.1 = t'
      · rw [List.filter_cons_of_pos (by simp [h]), List.map_cons, List.sum_cons, if_pos h]
      · rw [List.filter_cons_of_neg (by simp [h]), if_neg h, Int.zero_add]
    have sn : 0 ≤ (r.map (·.2)).sum := sum_nonneg fun y hy => by
      obtain ⟨x, hx, rfl⟩ := List.mem_map.mp hy
      have := (hl x (List.mem_cons_of_mem _ hx)).2
      omega
    have es : (((t, n) :: r).map (·.2)).sum = n + (r.map (·.2)).sum := by rw [List.map_cons, List.sum_cons]
    unfold mergeI
    cases hm : mergeI r with
    | nil =>
      rw [hm] at i1 i2 i3 i4 i5
      dsimp only
      refine ⟨by simp, by rw [exp_cons, exp_cons, ← i2], ⟨h0.1, by omega, trivial⟩, fun t' => by rw [ts, ts, ← i4], fun x hx => ?_⟩
      rw [List.mem_singleton.mp hx, es]
      exact ⟨h0.2, ⟨_, List.mem_cons_self, rfl⟩, by dsimp only; omega⟩
    | cons y q =>
      obtain ⟨s, m⟩ := y
      rw [hm] at i1 i2 i3 i4 i5
      obtain ⟨a1, a2, a3⟩ := i3
      have m0 := i5 (s, m) List.mem_cons_self
      dsimp only at m0
      dsimp only
      split
      · rename_i hst
        subst hst
        refine ⟨by simp only [List.length_cons] at i1 ⊢; omega, ?_, ⟨h0.1, by omega, a3⟩, fun t' => ?_, fun x hx => ?_⟩
        · rw [exp_cons, exp_cons, ← i2, exp_cons, ← List.append_assoc, List.replicate_append_replicate]
          show List.replicate (n + m).toNat s ++ _ = List.replicate (n.toNat + m.toNat) s ++ _
          rw [show (n + m).toNat = n.toNat + m.toNat by omega]
        · rw [ts, ts, ← i4, ts]
          dsimp only
          split <;> omega
        · rcases List.mem_cons.mp hx with rfl | hx
          · exact ⟨by dsimp only; omega, ⟨_, List.mem_cons_self, rfl⟩, by rw [es]; dsimp only; omega⟩
          · obtain ⟨b1, ⟨y, hy, b2⟩, b3⟩ := i5 x (List.mem_cons_of_mem _ hx)
            exact ⟨b1, ⟨y, List.mem_cons_of_mem _ hy, b2⟩, by rw [es]; omega⟩
      · rename_i hst
        refine ⟨by simp only [List.length_cons] at i1 ⊢; omega, by rw [exp_cons (x := (t, n)) (r := (s, m) :: q), exp_cons (x := (t, n)) (r := r), i2], ⟨h0.1, by omega, by omega, a2, a3⟩, fun t' => by rw [ts t' (t, n) ((s, m) :: q), ts t' (t, n) r, i4], fun x hx => ?_⟩
        rcases List.mem_cons.mp hx with rfl | hx
        · exact ⟨h0.2, ⟨_, List.mem_cons_self, rfl⟩, by rw [es]; dsimp only; omega⟩
        · obtain ⟨b1, ⟨y, hy, b2⟩, b3⟩ := i5 x hx
          exact ⟨b1, ⟨y, List.mem_cons_of_mem _ hy, b2⟩, by rw [es]; omega⟩
theorem asc_strict : ∀ {ds : List Item} {l : Int}, Asc ds l → ds.Pairwise fun x y => x.1 < y.1
  | [], _, _ => .nil
  | (t, n) :: r, _, ⟨_, _, h3⟩ => .cons (fun y hy => by have := asc_le h3 y hy; show t < y.1; omega) (asc_strict h3)
theorem asc_sum : ∀ {ds : List Item} {l : Int}, Asc ds l → ∀ x : Item, x ∈ ds ↔ x.2 ≠ 0 ∧ x.2 = (turnsAt x.1 ds).sum
  | [], _, _, x => ⟨fun h => (by cases h), fun ⟨h1, h2⟩ => absurd h2 h1⟩
  | (t, n) :: r, l, ⟨h1, h2, h3⟩, (s, m) => by
    have ih := asc_sum h3 (s, m)
    have e : (turnsAt s ((t, n) :: r)).sum = (if t = s then n else 0) + (turnsAt s r).sum := by
      unfold turnsAt
      by_cases h : t = s
      · rw [List.filter_cons_of_pos (by simp [h]), List.map_cons, List.sum_cons, if_pos h]
      · rw [List.filter_cons_of_neg (by simp [h]), if_neg h, Int.zero_add]
    dsimp only at ih ⊢
    rw [e, List.mem_cons]
    by_cases h : t = s
    · subst h
      have tn : turnsAt t r = [] := turns_none fun hm => by
        obtain ⟨y, hy, ey⟩ := List.mem_map.mp hm
        have := asc_le h3 y hy
        omega
      rw [if_pos rfl, tn]
      constructor
      · rintro (hx | hx)
        · cases hx
          exact ⟨h2, by simp⟩
        · have := asc_le h3 _ hx
          dsimp only at this
          omega
      · rintro ⟨_, hx⟩
        left
        rw [hx]
        simp
    · rw [if_neg h, Int.zero_add, ← ih]
      constructor
      · rintro (hx | hx)
        · cases hx
          exact absurd rfl h
        · exact hx
      · exact fun hx => .inr hx
theorem merge_sum {es rs : List Item} (pw : es.Pairwise fun x y => x.1 ≤ y.1) (h : ∀ x ∈ es, 0 ≤ x.1 ∧ 1 ≤ x.2) (hs : SumOf es rs) : rs = mergeI es := by
  obtain ⟨_, _, m3, m4, _⟩ := merge_ok pw h
  refine sum_uniq hs ⟨asc_strict m3, fun x => ?_⟩
  rw [asc_sum m3 x, m4]
/-! ### all numbers times a number -/
theorem half_scale {R t y : Int} (ht : 1 ≤ t) : R * t / 2 < t * y ↔ R / 2 < y := by
  have e1 : R * t / 2 < t * y ↔ R * t < 2 * (t * y) := by omega
  have e2 : R / 2 < y ↔ R < 2 * y := by omega
  rw [e1, e2, show 2 * (t * y) = t * (2 * y) from by rw [← Int.mul_assoc, Int.mul_comm 2 t, Int.mul_assoc], Int.mul_comm R t]
  exact ⟨fun h => Int.lt_of_mul_lt_mul_left h (by omega), fun h => Int.mul_lt_mul_of_pos_left h (by omega)⟩
theorem over_scale {R S u t d : Int} {ds : List Item} {i j : Nat} (ht : 1 ≤ t) : u * t * d < overI (R * t / 2) (S * t) ds i j ↔ u * d < overI (R / 2) S ds i j := by
  unfold overI
  generalize (((ds.drop i).take (j + 1 - i)).map (·.2)).sum = x
  have h := half_scale (R := R) (y := S * x - u * d) ht
  rw [Int.mul_sub] at h
  have e1 : t * (S * x) = S * t * x := by rw [← Int.mul_assoc, Int.mul_comm t S]
  have e2 : t * (u * d) = u * t * d := by rw [← Int.mul_assoc, Int.mul_comm t u]
  rw [e1, e2] at h
  omega
theorem over_pos {R S t : Int} {ds : List Item} {i j : Nat} (ht : 1 ≤ t) : 0 < overI (R * t / 2) (S * t) ds i j ↔ 0 < overI (R / 2) S ds i j := by
  have := @over_scale R S 0 t 0 ds i j ht
  simpa using this
theorem ch_scale {R S u t : Int} {ds : List Item} {i j : Nat} (ht : 1 ≤ t) (hu : 0 ≤ u) : chU (u * t) ds ((i : Int), (j : Int), overI (R * t / 2) (S * t) ds i j) = chU u ds ((i : Int), (j : Int), overI (R / 2) S ds i j) := by
  unfold chU
  dsimp only
  by_cases h : u = 0
  · rw [if_pos h, if_pos (by rw [h, Int.zero_mul])]
  · have ut : 0 < u * t := Int.mul_pos (by omega) (by omega)
    rw [if_neg h, if_neg (by omega)]
    unfold changeI
    have q : (overI (R * t / 2) (S * t) ds i j - 1) / (u * t) = (overI (R / 2) S ds i j - 1) / u := by
      have key : ∀ d, d ≤ (overI (R * t / 2) (S * t) ds i j - 1) / (u * t) ↔ d ≤ (overI (R / 2) S ds i j - 1) / u := fun d => by
        rw [Int.le_ediv_iff_mul_le ut, Int.le_ediv_iff_mul_le (by omega), Int.mul_comm d, Int.mul_comm d]
        have := @over_scale R S u t d ds i j ht
        omega
      exact Int.le_antisymm ((key _).mp (Int.le_refl _)) ((key _).mpr (Int.le_refl _))
    rw [q]
theorem min_scale {R S u t m : Int} {ds : List Item} (ht : 1 ≤ t) (hu : 0 ≤ u) (h : MinU (R * t / 2) (S * t) (u * t) ds m) : MinU (R / 2) S u ds m := by
  obtain ⟨row, hr, e, hm⟩ := h
  obtain ⟨i, j, rfl, hij, hj, ho⟩ := rows_mem.mp hr
  rw [ch_scale ht hu] at e
  refine ⟨_, rows_mem.mpr ⟨i, j, rfl, hij, hj, (over_pos ht).mp ho⟩, e, fun x hx => ?_⟩
  obtain ⟨a, b, rfl, hab, hb, ho2⟩ := rows_mem.mp hx
  have := hm _ (rows_mem.mpr ⟨a, b, rfl, hab, hb, (over_pos ht).mpr ho2⟩)
  rw [ch_scale ht hu] at this
  exact this
theorem rows_scale {R S t : Int} {ds : List Item} (ht : 1 ≤ t) (h : rowsI (R * t / 2) (S * t) ds = []) : rowsI (R / 2) S ds = [] := by
  rw [List.eq_nil_iff_forall_not_mem] at h ⊢
  intro row hr
  obtain ⟨i, j, rfl, hij, hj, ho⟩ := rows_mem.mp hr
  exact h _ (rows_mem.mpr ⟨i, j, rfl, hij, hj, (over_pos ht).mpr ho⟩)
theorem eqv_intsW : ∀ {a b : List Int}, PyData.eqvAll (a.map .int) (b.map .int) = decide (a = b)
  | [], [] => rfl
  | [], _ :: _ => rfl
  | _ :: _, [] => rfl
  | x :: a, y :: b => by
    have ih := @eqv_intsW a b
    show (PyData.eqv (.int x) (.int y) && PyData.eqvAll (a.map .int) (b.map .int)) = _
    rw [ih]
    show (decide (x = y) && decide (a = b)) = _
    rw [← Bool.decide_and]
    exact decide_eq_decide.mpr (by rw [List.cons.injEq])
end Lw

namespace Lw
open PySem PySem.Spec PyProof.Rows L2 Kt
def topS (i : Nat) : Stmt := PySem.Challenge.pw_poleslips_k38_slack_of_great_numbers.main.body.getD i (.Pass ⟨0, 0, 0, 0⟩)
abbrev s_fore_part : Stmt := topS 9
theorem sc_fore_part : FnScope ["wheel"] ["wheel"] (defScope s_fore_part) := ⟨rfl, rfl, rfl, by decide +kernel, rfl, by decide +kernel, by decide +kernel⟩
theorem b_fore_part : bindsAll "fore_part" s_fore_part ["wheel"] := fun _ _ _ _ _ _ us hl => match us, hl with | [_], _ => rfl

abbrev s_back_part : Stmt := topS 10
theorem sc_back_part : FnScope ["wheel"] ["wheel"] (defScope s_back_part) := ⟨rfl, rfl, rfl, by decide +kernel, rfl, by decide +kernel, by decide +kernel⟩
theorem b_back_part : bindsAll "back_part" s_back_part ["wheel"] := fun _ _ _ _ _ _ us hl => match us, hl with | [_], _ => rfl

abbrev s_rest_at : Stmt := topS 11
theorem sc_rest_at : FnScope ["wheel", "field", "place", "back"] ["wheel", "field", "place"] (defScope s_rest_at) := ⟨rfl, rfl, rfl, by decide +kernel, rfl, by decide +kernel, by decide +kernel⟩
theorem b_rest_at : bindsAll "rest_at" s_rest_at ["wheel", "field", "place"] := fun _ _ _ _ _ _ us hl => match us, hl with | [_, _, _], _ => rfl

abbrev s_aim_at : Stmt := topS 12
theorem sc_aim_at : FnScope ["wheel", "field", "place"] ["wheel", "field", "place"] (defScope s_aim_at) := ⟨rfl, rfl, rfl, by decide +kernel, rfl, by decide +kernel, by decide +kernel⟩
theorem b_aim_at : bindsAll "aim_at" s_aim_at ["wheel", "field", "place"] := fun _ _ _ _ _ _ us hl => match us, hl with | [_, _, _], _ => rfl

abbrev s_lost_at : Stmt := topS 13
theorem sc_lost_at : FnScope ["wheel", "field", "place"] ["wheel", "field", "place"] (defScope s_lost_at) := ⟨rfl, rfl, rfl, by decide +kernel, rfl, by decide +kernel, by decide +kernel⟩
theorem b_lost_at : bindsAll "lost_at" s_lost_at ["wheel", "field", "place"] := fun _ _ _ _ _ _ us hl => match us, hl with | [_, _, _], _ => rfl

abbrev s_moved : Stmt := topS 14
theorem sc_moved : FnScope ["wheel", "field", "place", "pull", "ticks", "rest", "way"] ["wheel", "field", "place", "pull", "ticks"] (defScope s_moved) := ⟨rfl, rfl, rfl, by decide +kernel, rfl, by decide +kernel, by decide +kernel⟩
theorem b_moved : bindsAll "moved" s_moved ["wheel", "field", "place", "pull", "ticks"] := fun _ _ _ _ _ _ us hl => match us, hl with | [_, _, _, _, _], _ => rfl

abbrev s_is_number : Stmt := topS 17
theorem sc_is_number : FnScope ["value"] ["value"] (defScope s_is_number) := ⟨rfl, rfl, rfl, by decide +kernel, rfl, by decide +kernel, by decide +kernel⟩
theorem b_is_number : bindsAll "is_number" s_is_number ["value"] := fun _ _ _ _ _ _ us hl => match us, hl with | [_], _ => rfl

abbrev s_is_number_from : Stmt := topS 18
theorem sc_is_number_from : FnScope ["value", "least"] ["value", "least"] (defScope s_is_number_from) := ⟨rfl, rfl, rfl, by decide +kernel, rfl, by decide +kernel, by decide +kernel⟩
theorem b_is_number_from : bindsAll "is_number_from" s_is_number_from ["value", "least"] := fun _ _ _ _ _ _ us hl => match us, hl with | [_, _], _ => rfl

abbrev s_is_pair : Stmt := topS 19
theorem sc_is_pair : FnScope ["value"] ["value"] (defScope s_is_pair) := ⟨rfl, rfl, rfl, by decide +kernel, rfl, by decide +kernel, by decide +kernel⟩
theorem b_is_pair : bindsAll "is_pair" s_is_pair ["value"] := fun _ _ _ _ _ _ us hl => match us, hl with | [_], _ => rfl

abbrev s_check_wheel : Stmt := topS 20
theorem sc_check_wheel : FnScope ["wheel", "whole", "step"] ["wheel"] (defScope s_check_wheel) := ⟨rfl, rfl, rfl, by decide +kernel, rfl, by decide +kernel, by decide +kernel⟩
theorem b_check_wheel : bindsAll "check_wheel" s_check_wheel ["wheel"] := fun _ _ _ _ _ _ us hl => match us, hl with | [_], _ => rfl

abbrev s_is_item : Stmt := topS 21
theorem sc_is_item : FnScope ["value", "least_tick", "tick", "turn"] ["value", "least_tick"] (defScope s_is_item) := ⟨rfl, rfl, rfl, by decide +kernel, rfl, by decide +kernel, by decide +kernel⟩
theorem b_is_item : bindsAll "is_item" s_is_item ["value", "least_tick"] := fun _ _ _ _ _ _ us hl => match us, hl with | [_, _], _ => rfl

abbrev s_check_drive : Stmt := topS 22
theorem sc_check_drive : FnScope ["drive", "ahead", "least_tick", "index", "item"] ["drive", "ahead"] (defScope s_check_drive) := ⟨rfl, rfl, rfl, by decide +kernel, rfl, by decide +kernel, by decide +kernel⟩
theorem b_check_drive : bindsB "check_drive" s_check_drive ["drive", "ahead"] := fun _ _ _ _ _ _ _ us its hl hi => match us, its, hl, hi with | [_], [_], _, _ => ⟨_, rfl, rfl⟩
theorem bf_check_drive : bindsF "check_drive" s_check_drive ["drive", "ahead"] := fun _ _ _ _ _ _ _ us its hl hi => match us, its, hl, hi with | [_, _], [_], _, _ => ⟨_, rfl, rfl⟩

abbrev s_check_number_from : Stmt := topS 23
theorem sc_check_number_from : FnScope ["value", "least"] ["value", "least"] (defScope s_check_number_from) := ⟨rfl, rfl, rfl, by decide +kernel, rfl, by decide +kernel, by decide +kernel⟩
theorem b_check_number_from : bindsAll "check_number_from" s_check_number_from ["value", "least"] := fun _ _ _ _ _ _ us hl => match us, hl with | [_, _], _ => rfl

abbrev s_check_pull_from : Stmt := topS 25
theorem sc_check_pull_from : FnScope ["pull", "least"] ["pull", "least"] (defScope s_check_pull_from) := ⟨rfl, rfl, rfl, by decide +kernel, rfl, by decide +kernel, by decide +kernel⟩
theorem b_check_pull_from : bindsAll "check_pull_from" s_check_pull_from ["pull", "least"] := fun _ _ _ _ _ _ us hl => match us, hl with | [_, _], _ => rfl

abbrev s_check_pull : Stmt := topS 24
theorem sc_check_pull : FnScope ["pull"] ["pull"] (defScope s_check_pull) := ⟨rfl, rfl, rfl, by decide +kernel, rfl, by decide +kernel, by decide +kernel⟩
theorem b_check_pull : bindsAll "check_pull" s_check_pull ["pull"] := fun _ _ _ _ _ _ us hl => match us, hl with | [_], _ => rfl

abbrev s_is_beginning : Stmt := topS 26
theorem sc_is_beginning : FnScope ["wheel", "value"] ["wheel", "value"] (defScope s_is_beginning) := ⟨rfl, rfl, rfl, by decide +kernel, rfl, by decide +kernel, by decide +kernel⟩
theorem b_is_beginning : bindsAll "is_beginning" s_is_beginning ["wheel", "value"] := fun _ _ _ _ _ _ us hl => match us, hl with | [_, _], _ => rfl

abbrev s_check_beginning : Stmt := topS 27
theorem sc_check_beginning : FnScope ["wheel", "place"] ["wheel", "place"] (defScope s_check_beginning) := ⟨rfl, rfl, rfl, by decide +kernel, rfl, by decide +kernel, by decide +kernel⟩
theorem b_check_beginning : bindsAll "check_beginning" s_check_beginning ["wheel", "place"] := fun _ _ _ _ _ _ us hl => match us, hl with | [_, _], _ => rfl

abbrev s_summed : Stmt := topS 29
theorem sc_summed : FnScope ["items", "turns", "tick", "turn"] ["items"] (defScope s_summed) := ⟨rfl, rfl, rfl, by decide +kernel, rfl, by decide +kernel, by decide +kernel⟩
theorem b_summed : bindsAll "summed" s_summed ["items"] := fun _ _ _ _ _ _ us hl => match us, hl with | [_], _ => rfl

abbrev s_check_play : Stmt := topS 31
theorem sc_check_play : FnScope ["wheel", "pull", "place", "drive"] ["wheel", "pull", "place", "drive"] (defScope s_check_play) := ⟨rfl, rfl, rfl, by decide +kernel, rfl, by decide +kernel, by decide +kernel⟩
theorem b_check_play : bindsAll "check_play" s_check_play ["wheel", "pull", "place", "drive"] := fun _ _ _ _ _ _ us hl => match us, hl with | [_, _, _, _], _ => rfl

abbrev s_marks_of : Stmt := topS 32
theorem sc_marks_of : FnScope ["wheel", "pull", "place", "drive", "marks", "tick", "turn", "now", "field", "here", "there"] ["wheel", "pull", "place", "drive"] (defScope s_marks_of) := ⟨rfl, rfl, rfl, by decide +kernel, rfl, by decide +kernel, by decide +kernel⟩
theorem b_marks_of : bindsAll "marks_of" s_marks_of ["wheel", "pull", "place", "drive"] := fun _ _ _ _ _ _ us hl => match us, hl with | [_, _, _, _], _ => rfl

abbrev s_play : Stmt := topS 33
theorem sc_play : FnScope ["wheel", "pull", "place", "drive", "marks", "tick", "field", "here"] ["wheel", "pull", "place", "drive"] (defScope s_play) := ⟨rfl, rfl, rfl, by decide +kernel, rfl, by decide +kernel, by decide +kernel⟩
theorem b_play : bindsAll "play" s_play ["wheel", "pull", "place", "drive"] := fun _ _ _ _ _ _ us hl => match us, hl with | [_, _, _, _], _ => rfl

abbrev s_slips : Stmt := topS 34
theorem sc_slips : FnScope ["wheel", "pull", "place", "drive", "before", "found", "index", "row", "lost"] ["wheel", "pull", "place", "drive"] (defScope s_slips) := ⟨rfl, rfl, rfl, by decide +kernel, rfl, by decide +kernel, by decide +kernel⟩
theorem b_slips : bindsAll "slips" s_slips ["wheel", "pull", "place", "drive"] := fun _ _ _ _ _ _ us hl => match us, hl with | [_, _, _, _], _ => rfl

abbrev s_is_kept : Stmt := topS 35
theorem sc_is_kept : FnScope ["wheel", "pull", "place", "drive"] ["wheel", "pull", "place", "drive"] (defScope s_is_kept) := ⟨rfl, rfl, rfl, by decide +kernel, rfl, by decide +kernel, by decide +kernel⟩
theorem b_is_kept : bindsAll "is_kept" s_is_kept ["wheel", "pull", "place", "drive"] := fun _ _ _ _ _ _ us hl => match us, hl with | [_, _, _, _], _ => rfl

abbrev s_check_slack : Stmt := topS 37
theorem sc_check_slack : FnScope ["wheel", "low", "drive"] ["wheel", "low", "drive"] (defScope s_check_slack) := ⟨rfl, rfl, rfl, by decide +kernel, rfl, by decide +kernel, by decide +kernel⟩
theorem b_check_slack : bindsAll "check_slack" s_check_slack ["wheel", "low", "drive"] := fun _ _ _ _ _ _ us hl => match us, hl with | [_, _, _], _ => rfl

abbrev s_rows_over : Stmt := topS 38
theorem sc_rows_over : FnScope ["wheel", "drive", "rows", "first", "over", "last"] ["wheel", "drive"] (defScope s_rows_over) := ⟨rfl, rfl, rfl, by decide +kernel, rfl, by decide +kernel, by decide +kernel⟩
theorem b_rows_over : bindsAll "rows_over" s_rows_over ["wheel", "drive"] := fun _ _ _ _ _ _ us hl => match us, hl with | [_, _], _ => rfl

abbrev s_least_change : Stmt := topS 39
theorem sc_least_change : FnScope ["low", "drive", "row", "first", "last", "over", "far"] ["low", "drive", "row"] (defScope s_least_change) := ⟨rfl, rfl, rfl, by decide +kernel, rfl, by decide +kernel, by decide +kernel⟩
theorem b_least_change : bindsAll "least_change" s_least_change ["low", "drive", "row"] := fun _ _ _ _ _ _ us hl => match us, hl with | [_, _, _], _ => rfl

abbrev s_weakest : Stmt := topS 40
theorem sc_weakest : FnScope ["wheel", "low", "drive", "rows", "row"] ["wheel", "low", "drive"] (defScope s_weakest) := ⟨rfl, rfl, rfl, by decide +kernel, rfl, by decide +kernel, by decide +kernel⟩
theorem b_weakest : bindsAll "weakest" s_weakest ["wheel", "low", "drive"] := fun _ _ _ _ _ _ us hl => match us, hl with | [_, _, _], _ => rfl

abbrev s_slack : Stmt := topS 41
theorem sc_slack : FnScope ["wheel", "low", "drive", "found"] ["wheel", "low", "drive"] (defScope s_slack) := ⟨rfl, rfl, rfl, by decide +kernel, rfl, by decide +kernel, by decide +kernel⟩
theorem b_slack : bindsAll "slack" s_slack ["wheel", "low", "drive"] := fun _ _ _ _ _ _ us hl => match us, hl with | [_, _, _], _ => rfl

abbrev s_brought_together : Stmt := topS 42
theorem sc_brought_together : FnScope ["drive", "first", "last", "by", "begin", "end", "row", "tick", "turn"] ["drive", "first", "last", "by"] (defScope s_brought_together) := ⟨rfl, rfl, rfl, by decide +kernel, rfl, by decide +kernel, by decide +kernel⟩
theorem b_brought_together : bindsAll "brought_together" s_brought_together ["drive", "first", "last", "by"] := fun _ _ _ _ _ _ us hl => match us, hl with | [_, _, _, _], _ => rfl

abbrev s_late_drive : Stmt := topS 43
theorem sc_late_drive : FnScope ["wheel", "low", "drive", "by", "found", "first", "last", "_"] ["wheel", "low", "drive", "by"] (defScope s_late_drive) := ⟨rfl, rfl, rfl, by decide +kernel, rfl, by decide +kernel, by decide +kernel⟩
theorem b_late_drive : bindsAll "late_drive" s_late_drive ["wheel", "low", "drive", "by"] := fun _ _ _ _ _ _ us hl => match us, hl with | [_, _, _, _], _ => rfl

abbrev s_is_late : Stmt := topS 44
theorem sc_is_late : FnScope ["drive", "by", "value", "before", "tick", "turn", "item"] ["drive", "by", "value"] (defScope s_is_late) := ⟨rfl, rfl, rfl, by decide +kernel, rfl, by decide +kernel, by decide +kernel⟩
theorem b_is_late : bindsAll "is_late" s_is_late ["drive", "by", "value"] := fun _ _ _ _ _ _ us hl => match us, hl with | [_, _, _], _ => rfl

abbrev s_shows_late : Stmt := topS 45
theorem sc_shows_late : FnScope ["wheel", "low", "drive", "by", "value"] ["wheel", "low", "drive", "by", "value"] (defScope s_shows_late) := ⟨rfl, rfl, rfl, by decide +kernel, rfl, by decide +kernel, by decide +kernel⟩
theorem b_shows_late : bindsAll "shows_late" s_shows_late ["wheel", "low", "drive", "by", "value"] := fun _ _ _ _ _ _ us hl => match us, hl with | [_, _, _, _, _], _ => rfl

abbrev s__law_tank : Stmt := topS 47
theorem sc__law_tank : FnScope ["script", "at", "cell"] ["script", "at"] (defScope s__law_tank) := ⟨rfl, rfl, rfl, by decide +kernel, rfl, by decide +kernel, by decide +kernel⟩
theorem b__law_tank : bindsAll "_law_tank" s__law_tank ["script", "at"] := fun _ _ _ _ _ _ us hl => match us, hl with | [_, _], _ => rfl

abbrev s__law_tap : Stmt := topS 48
theorem sc__law_tap : FnScope ["tank", "many", "drawn", "mixed"] ["tank", "many"] (defScope s__law_tap) := ⟨rfl, rfl, rfl, by decide +kernel, rfl, by decide +kernel, by decide +kernel⟩
theorem b__law_tap : bindsAll "_law_tap" s__law_tap ["tank", "many"] := fun _ _ _ _ _ _ us hl => match us, hl with | [_, _], _ => rfl

abbrev s__law_disc : Stmt := topS 49
theorem sc__law_disc : FnScope ["tank", "top", "whole", "most_here"] ["tank", "top"] (defScope s__law_disc) := ⟨rfl, rfl, rfl, by decide +kernel, rfl, by decide +kernel, by decide +kernel⟩
theorem b__law_disc : bindsAll "_law_disc" s__law_disc ["tank", "top"] := fun _ _ _ _ _ _ us hl => match us, hl with | [_, _], _ => rfl

abbrev s__law_begin : Stmt := topS 50
theorem sc__law_begin : FnScope ["tank", "disc", "fore_here", "back_here"] ["tank", "disc"] (defScope s__law_begin) := ⟨rfl, rfl, rfl, by decide +kernel, rfl, by decide +kernel, by decide +kernel⟩
theorem b__law_begin : bindsAll "_law_begin" s__law_begin ["tank", "disc"] := fun _ _ _ _ _ _ us hl => match us, hl with | [_, _], _ => rfl

abbrev s__law_least : Stmt := topS 51
theorem sc__law_least : FnScope ["tank", "disc", "fore_here", "near", "some"] ["tank", "disc"] (defScope s__law_least) := ⟨rfl, rfl, rfl, by decide +kernel, rfl, by decide +kernel, by decide +kernel⟩
theorem b__law_least : bindsAll "_law_least" s__law_least ["tank", "disc"] := fun _ _ _ _ _ _ us hl => match us, hl with | [_, _], _ => rfl

abbrev s__law_ahead : Stmt := topS 52
theorem sc__law_ahead : FnScope ["disc", "least", "here", "count", "field_here", "now", "found", "turn", "need", "ticks"] ["disc", "least", "here", "count"] (defScope s__law_ahead) := ⟨rfl, rfl, rfl, by decide +kernel, rfl, by decide +kernel, by decide +kernel⟩
theorem b__law_ahead : bindsAll "_law_ahead" s__law_ahead ["disc", "least", "here", "count"] := fun _ _ _ _ _ _ us hl => match us, hl with | [_, _, _, _], _ => rfl

abbrev s__law_items : Stmt := topS 53
theorem sc__law_items : FnScope ["rows", "found", "now", "here"] ["rows"] (defScope s__law_items) := ⟨rfl, rfl, rfl, by decide +kernel, rfl, by decide +kernel, by decide +kernel⟩
theorem b__law_items : bindsAll "_law_items" s__law_items ["rows"] := fun _ _ _ _ _ _ us hl => match us, hl with | [_], _ => rfl

abbrev s__law_slips : Stmt := topS 54
theorem sc__law_slips : FnScope ["disc", "least", "rows", "here", "field_here", "last", "now", "turned"] ["disc", "least", "rows"] (defScope s__law_slips) := ⟨rfl, rfl, rfl, by decide +kernel, rfl, by decide +kernel, by decide +kernel⟩
theorem b__law_slips : bindsAll "_law_slips" s__law_slips ["disc", "least", "rows"] := fun _ _ _ _ _ _ us hl => match us, hl with | [_, _, _], _ => rfl

abbrev s__law_later : Stmt := topS 55
theorem sc__law_later : FnScope ["tank", "disc", "least", "count", "far", "extra", "rows", "now", "here"] ["tank", "disc", "least", "count", "far"] (defScope s__law_later) := ⟨rfl, rfl, rfl, by decide +kernel, rfl, by decide +kernel, by decide +kernel⟩
theorem b__law_later : bindsAll "_law_later" s__law_later ["tank", "disc", "least", "count", "far"] := fun _ _ _ _ _ _ us hl => match us, hl with | [_, _, _, _, _], _ => rfl

abbrev s__law_is_list : Stmt := topS 56
theorem sc__law_is_list : FnScope ["plan", "off", "rows", "ticks", "now", "turned", "one", "two"] ["plan", "off", "rows"] (defScope s__law_is_list) := ⟨rfl, rfl, rfl, by decide +kernel, rfl, by decide +kernel, by decide +kernel⟩
theorem b__law_is_list : bindsAll "_law_is_list" s__law_is_list ["plan", "off", "rows"] := fun _ _ _ _ _ _ us hl => match us, hl with | [_, _, _], _ => rfl

abbrev s__law_drawn : Stmt := topS 57
theorem sc__law_drawn : FnScope ["tank", "plan", "off", "edge", "found", "last", "kind", "spot", "item", "way", "now", "turned"] ["tank", "plan", "off"] (defScope s__law_drawn) := ⟨rfl, rfl, rfl, by decide +kernel, rfl, by decide +kernel, by decide +kernel⟩
theorem b__law_drawn : bindsAll "_law_drawn" s__law_drawn ["tank", "plan", "off"] := fun _ _ _ _ _ _ us hl => match us, hl with | [_, _, _], _ => rfl

abbrev s__law_split : Stmt := topS 58
theorem sc__law_split : FnScope ["tank", "disc", "times", "unit"] ["tank", "disc"] (defScope s__law_split) := ⟨rfl, rfl, rfl, by decide +kernel, rfl, by decide +kernel, by decide +kernel⟩
theorem b__law_split : bindsAll "_law_split" s__law_split ["tank", "disc"] := fun _ _ _ _ _ _ us hl => match us, hl with | [_, _], _ => rfl

abbrev s__law_grown_right : Stmt := topS 60
theorem sc__law_grown_right : FnScope ["tank", "disc", "least", "plan", "spot", "now", "turned", "grown", "other", "raised"] ["tank", "disc", "least", "plan"] (defScope s__law_grown_right) := ⟨rfl, rfl, rfl, by decide +kernel, rfl, by decide +kernel, by decide +kernel⟩
theorem b__law_grown_right : bindsAll "_law_grown_right" s__law_grown_right ["tank", "disc", "least", "plan"] := fun _ _ _ _ _ _ us hl => match us, hl with | [_, _, _, _], _ => rfl

abbrev s__law_right : Stmt := topS 59
theorem sc__law_right : FnScope ["tank", "disc", "least", "plan", "kept", "told", "late", "far_off", "late_here", "turn", "rows", "times", "now", "turned"] ["tank", "disc", "least", "plan"] (defScope s__law_right) := ⟨rfl, rfl, rfl, by decide +kernel, rfl, by decide +kernel, by decide +kernel⟩
theorem b__law_right : bindsAll "_law_right" s__law_right ["tank", "disc", "least", "plan"] := fun _ _ _ _ _ _ us hl => match us, hl with | [_, _, _, _], _ => rfl

abbrev s_law : Stmt := topS 61
theorem sc_law : FnScope ["script", "at", "tank", "turn", "disc", "times", "fine", "least", "plan", "now", "turned"] ["script"] (defScope s_law) := ⟨rfl, rfl, rfl, by decide +kernel, rfl, by decide +kernel, by decide +kernel⟩
theorem b_law : bindsAll "law" s_law ["script"] := fun _ _ _ _ _ _ us hl => match us, hl with | [_], _ => rfl

theorem kb_late_drive_by_drive_low_wheel : bindsK "late_drive" s_late_drive ["wheel", "low", "drive", "by"] ["by", "drive", "low", "wheel"] [3, 2, 1, 0] := fun _ _ _ _ _ _ us hl => match us, hl with | [_, _, _, _], _ => rfl

end Lw
namespace Lw
open PySem PySem.Spec PyProof.Rows L2 Kt
section
variable {P : Program} {w : World} {K : PySem.W.Frag} {mg : Str → Option Value} {base : Heap}
def g_law : Gs := fun cs M Q E => match cs, M with
  | [.s ns], [] => ns.length ≤ 63 ∧ (∀ z ∈ ns, Builtin.Int.intBits z ≤ 1048576) ∧ retD Q (.bool true)
  | _, _ => False
def g_is_late : Gs := fun cs M Q E => match cs, M with
  | [.d (.list xs), .d (.int b), .d (.list ys)], [] => ∃ ds es : List Item, xs = ds.map itD ∧ ys = es.map itD ∧ (LateC b ds es 0 ∧ ds.length ≤ 60) ∧ retD Q (.bool true)
  | _, _ => False
def g_shows_late : Gs := fun cs M Q E => match cs, M with
  | [.d (.tuple [.int R, .int S]), .d (.int u), .d (.list xs), .d (.int b), .d (.list ys)], [] => ∃ ds es : List Item, xs = ds.map itD ∧ ys = es.map itD ∧ (PreV R S u ds ∧ 0 ≤ b ∧ LateC b ds es 0 ∧ SlipEx (R / 2) S u es ∧ WkOk (10 ^ 40) (10 ^ 31) es) ∧ retD Q (.bool true)
  | _, _ => False
def g__law_is_list : Gs := fun cs M Q E => match cs, M with
  | [.d (.list xs), .d (.int off), .d (.list ys)], [] => ∃ ds es : List Item, xs = ds.map itD ∧ ys = es.map itD ∧ (es.map (·.2) = ds.map (·.2) ∧ ds.length ≤ 60) ∧ ∀ b : Bool, (b = true ↔ LateC off ds es 0) → retD Q (.bool b)
  | _, _ => False
def g__law_drawn : Gs := fun cs M Q E => match cs, M with
  | [.r 0, .d (.list xs), .d (.int off)], [.live [.int a, .int b, .int c]] => ∃ ds : List Item, xs = ds.map itD ∧ ((SrcOk a b c ∧ c + 200 ≤ 10 ^ 12) ∧ LgOk ds ∧ 0 ≤ off ∧ off ≤ 10 ^ 33) ∧ ∀ (es : List Item) a' c', es.map (·.2) = ds.map (·.2) → 0 ≤ a' → c ≤ c' → c' ≤ c + 200 → retLR Q [.int a', .int b, .int c'] (es.map itD)
  | _, _ => False
def g__law_grown_right : Gs := fun cs M Q E => match cs, M with
  | [.r 0, .d (.tuple [.int R, .int S]), .d (.int u), .d (.list xs)], [.live [.int a, .int b, .int c]] => ∃ ds : List Item, xs = ds.map itD ∧ ((SrcOk a b c ∧ c + 2 ≤ 10 ^ 12) ∧ (WhI R S ∧ R ≤ 10 ^ 29) ∧ (1 ≤ u ∧ u ≤ 10 ^ 33) ∧ LgOk ds ∧ ∀ x ∈ ds, x.2 ≤ 10 ^ 30) ∧ ∀ a' c', 0 ≤ a' → c ≤ c' → c' ≤ c + 2 → retDR Q [.int a', .int b, .int c'] (.bool true)
  | _, _ => False
def g__law_right : Gs := fun cs M Q E => match cs, M with
  | [.r 0, .d (.tuple [.int R, .int S]), .d (.int u), .d (.list xs)], [.live [.int a, .int b, .int c]] => ∃ ds : List Item, xs = ds.map itD ∧ ((SrcOk a b c ∧ c + 2000 ≤ 10 ^ 12) ∧ (WhI R S ∧ R ≤ 10 ^ 29) ∧ (1 ≤ u ∧ u ≤ 10 ^ 33) ∧ LgOk ds ∧ (∀ x ∈ ds, x.2 ≤ 10 ^ 30) ∧ ¬ SlipEx (R / 2) S u ds) ∧ ∀ a' c', 0 ≤ a' → c ≤ c' → c' ≤ c + 2000 → retDR Q [.int a', .int b, .int c'] (.bool true)
  | _, _ => False
theorem kp_new {n : Nat} {M : Mem} {z w : MC} : Kp n M (M.set n z ++ [w]) := ⟨by rw [List.length_append, List.length_set]; omega, fun k hk hn => by
  rw [List.getElem?_append_left (by rw [List.length_set]; exact hk), List.getElem?_set_ne (fun e => hn e.symm)]⟩
section
variable {M : Mem} {Q : Qx} {ρ : Rho} {Wh : Xc → Rho → Mem → Prop} {n kk : Nat} {a b c : Int}
theorem w_ldrawnG {ds : List Item} {off : Int} (hn : 3 = kk) (hm : At n M b a c) (pre : (SrcOk a b c ∧ c + 200 ≤ 10 ^ 12) ∧ LgOk ds ∧ 0 ≤ off ∧ off ≤ 10 ^ 33)
    (h : ∀ (es : List Item) k a' c' M', es.map (·.2) = ds.map (·.2) → 0 ≤ a' → c ≤ c' → c' ≤ c + 200 → At n M' b a' c' → Kp n M M' → k = M.length → M'[k]? = some (.live (es.map itD)) → Q (.r k) M') : gCallR kk g__law_drawn Wh ρ Q [.r n, .d (.list (ds.map itD)), .d (.int off)] M := by
  refine w_gcallR hn rfl hm ?_
  refine ⟨ds, rfl, pre, fun es a' c' h1 h3 h4 h5 => w_retLR (h es M.length a' c' _ h1 h3 h4 h5 (At.app (at_set hm)) kp_new rfl ?_)⟩
  have := @new_at (M.set n (.live [.int a', .int b, .int c'])) (.live (es.map itD))
  rw [List.length_set] at this
  exact this
end
theorem late_cons {off : Int} {x y : Item} {ds es : List Item} {l : Int} (h : LateC off (x :: ds) (y :: es) l) : (y.2 = x.2 ∧ l ≤ y.1 ∧ x.1 - off ≤ y.1 ∧ y.1 ≤ x.1 + off) ∧ LateC off ds es y.1 := h
def fstD : PyData → PyData
  | .tuple (x :: _) => x
  | d => d
/-- each tick changed by at most off -/
def isM (off : Int) : List Item → List Item → Bool
  | x :: r, y :: s => decide (x.1 - y.1 ≤ off) && decide (y.1 - x.1 ≤ off) && isM off r s
  | _, _ => true
theorem isM_snoc {off : Int} {x y : Item} : ∀ {a b : List Item}, a.length = b.length → isM off (a ++ [x]) (b ++ [y]) = (isM off a b && (decide (x.1 - y.1 ≤ off) && decide (y.1 - x.1 ≤ off)))
  | [], [], _ => by
    show (_ && true) = (true && _)
    rw [Bool.and_true, Bool.true_and]
  | [], _ :: _, h => by cases h
  | _ :: _, [], h => by cases h
  | (t, n) :: r, (s, m) :: q, h => by
    have ih := isM_snoc (off := off) (x := x) (y := y) (a := r) (b := q) (by simpa using h)
    show (_ && isM off (r ++ [x]) (q ++ [y])) = _
    rw [ih, ← Bool.and_assoc]
    rfl
theorem isM_late {off : Int} : ∀ {es ds : List Item} {l : Int}, es.map (·.2) = ds.map (·.2) → (LateC off ds es l ↔ isM off es ds = true ∧ (es.map (·.1)).Pairwise (· ≤ ·) ∧ ∀ x ∈ es, l ≤ x.1)
  | [], [], _, _ => ⟨fun _ => ⟨rfl, .nil, fun x hx => by cases hx⟩, fun _ => trivial⟩
  | [], _ :: _, _, h => by cases h
  | _ :: _, [], _, h => by cases h
  | (t, n) :: r, (s, m) :: q, l, e => by
    rw [List.map_cons, List.map_cons, List.cons.injEq] at e
    have ih := isM_late (off := off) (l := t) e.2
    have en : n = m := e.1
    show ((n = m ∧ l ≤ t ∧ s - off ≤ t ∧ t ≤ s + off) ∧ LateC off q r t) ↔ (decide (t - s ≤ off) && decide (s - t ≤ off) && isM off r q) = true ∧ _
    rw [ih, Bool.and_eq_true, Bool.and_eq_true, decide_eq_true_eq, decide_eq_true_eq, List.map_cons, List.pairwise_cons]
    constructor
    · rintro ⟨⟨_, h1, h2, h3⟩, h4, h5, h6⟩
      refine ⟨⟨⟨by omega, by omega⟩, h4⟩, ⟨fun z hz => ?_, h5⟩, fun x hx => ?_⟩
      · obtain ⟨x, hx, rfl⟩ := List.mem_map.mp hz
        exact h6 x hx
      · rcases List.mem_cons.mp hx with rfl | hx
        · exact h1
        · have := h6 x hx
          omega
    · rintro ⟨⟨⟨h1, h2⟩, h4⟩, ⟨h5, h6⟩, h7⟩
      exact ⟨⟨en, h7 _ List.mem_cons_self, by omega, by omega⟩, h4, h6, fun x hx => h5 _ (List.mem_map_of_mem hx)⟩
def capD (cap : Int) : PyData → PyData
  | .tuple [.int t, .int n] => .tuple [.int (if cap < t then cap else t), .int n]
  | d => d
theorem asc_grow : ∀ {ds : List Item} {l : Int} {k : Nat} {t n m : Int}, Asc ds l → ds[k]? = some (t, n) → m ≠ 0 → Asc (ds.take k ++ (t, m) :: ds.drop (k + 1)) l
  | [], _, _, _, _, _, _, h, _ => by cases h
  | (a, b) :: r, l, 0, t, n, m, ⟨h1, h2, h3⟩, h, hm => by
    cases h
    exact ⟨h1, hm, h3⟩
  | (a, b) :: r, l, k + 1, t, n, m, ⟨h1, h2, h3⟩, h, hm => ⟨h1, h2, asc_grow h3 (show r[k]? = some (t, n) from h) hm⟩
theorem late_weak {a b : Int} (h : a ≤ b) : ∀ {ds es : List Item} {l : Int}, LateC a ds es l → LateC b ds es l
  | [], [], _, _ => trivial
  | (t, n) :: r, (t', n') :: r', l, ⟨⟨h1, h2, h3, h4⟩, h5⟩ => ⟨⟨h1, h2, by omega, by omega⟩, late_weak h h5⟩
  | [], _ :: _, _, h => h.elim
  | _ :: _, [], _, h => h.elim
section
variable {M : Mem} {Q : Qx} {ρ : Rho} {Wh : Xc → Rho → Mem → Prop} {n kk : Nat} {a b c : Int}
theorem w_grownG {R S u : Int} {ds : List Item} (hn : 4 = kk) (hm : At n M b a c) (pre : (SrcOk a b c ∧ c + 2 ≤ 10 ^ 12) ∧ (WhI R S ∧ R ≤ 10 ^ 29) ∧ (1 ≤ u ∧ u ≤ 10 ^ 33) ∧ LgOk ds ∧ ∀ x ∈ ds, x.2 ≤ 10 ^ 30)
    (h : ∀ a' c' M', 0 ≤ a' → c ≤ c' → c' ≤ c + 2 → At n M' b a' c' → Q (.d (.bool true)) M') : gCallR kk g__law_grown_right Wh ρ Q [.r n, .d (.tuple [.int R, .int S]), .d (.int u), .d (.list (ds.map itD))] M :=
  w_gcallR hn rfl hm ⟨ds, rfl, pre, fun a' c' h1 h2 h3 => w_retDR (h a' c' _ h1 h2 h3 (at_set hm))⟩
end
section
variable {M : Mem} {Q : Qx} {ρ : Rho} {Wh : Xc → Rho → Mem → Prop} {ds es : List Item}
/-- what a call with a frozen list leaves -/
theorem keep3 {M' : Mem} {x y : PyData} {kl kf : Nat} {z : MC} {b a c : Int} (f : Fz M M' [.d x, .d y, .r kl]) (h0 : kl ≠ 0) (h1 : kl ≠ kf) (hm : At 0 M b a c) (hf : M[kf]? = some z) : At 0 M' b a c ∧ M'[kf]? = some z := by
  refine ⟨At.fz f hm fun w hw => ?_, ?_⟩
  · simp only [List.mem_cons, List.not_mem_nil, or_false] at hw
    rcases hw with rfl | rfl | rfl
    · exact nd0
    · exact nd0
    · intro h
      injection h with h
      exact h0 h
  · rw [f.out kf fun w hw => ?_]
    · exact hf
    · simp only [List.mem_cons, List.not_mem_nil, or_false] at hw
      rcases hw with rfl | rfl | rfl
      · intro h; cases h
      · intro h; cases h
      · intro h
        injection h with h
        exact h1 h
theorem c_isl {off : Int} {kl : Nat} (hl : ds.length ≤ 60) (lc : LateC off ds es 0) (sk : Sees M (.r kl) (.list (es.map itD))) (h : ∀ M', Fz M M' [.d (.list (ds.map itD)), .d (.int off), .r kl] → Q (.d (.bool true)) M') : gCall 3 g__law_is_list Wh ρ Q [.d (.list (ds.map itD)), .d (.int off), .r kl] M :=
  w_gcF rfl (.cons .d (.cons .d (.cons sk .nil))) fun M' f => ⟨ds, es, rfl, rfl, ⟨late_map lc, hl⟩, fun b hb' => by rw [hb'.mpr lc]; exact w_retD (h M' f)⟩
theorem c_slp {R S u : Int} {kl : Nat} (wh : WhI R S) (hR : R ≤ 10 ^ 31) (hu : 0 ≤ u) (hu2 : u ≤ 10 ^ 40) (wk : WkOk (2 * 10 ^ 33) (10 ^ 31) es) (sk : Sees M (.r kl) (.list (es.map itD))) (b : Bool) (hb : b = true ↔ SlipEx (R / 2) S u es) (h : ∀ M', Fz M M' [.d (.tuple [.int R, .int S]), .d (.int u), .r kl] → Q (.d (.bool b)) M') : gCall 3 g__law_slips Wh ρ Q [.d (.tuple [.int R, .int S]), .d (.int u), .r kl] M := by
  have e : slipL (R / 2) S u es 0 0 = b := by
    have := slip_ex (F := R / 2) (S := S) hu fun x hx => (wk.2.2 x hx).1.1
    rw [Bool.eq_iff_iff, this, hb]
  refine w_gcF rfl (.cons .d (.cons .d (.cons sk .nil))) fun M' f => ⟨es, rfl, ⟨⟨wh, hR⟩, ⟨hu, hu2⟩, wk.1, fun x hx => ?_⟩, w_retD (by rw [e]; exact h M' f)⟩
  have := wk.2.2 x hx
  omega
end
theorem wk_up {es : List Item} (h : WkOk (2 * 10 ^ 33) (10 ^ 31) es) : WkOk (10 ^ 40) (10 ^ 31) es := ⟨h.1, h.2.1, fun x hx => by
  have := h.2.2 x hx
  omega⟩
theorem mul30 {T t : Int} {n : Nat} {ds : List Item} (ht : 1 ≤ t) (ht2 : t ≤ 10 ^ 28) (hn : n ≤ 60) (its : ItsP T n ds) : ∀ x ∈ (ds.map fun x => ((x.1, x.2 * t) : Item)), x.2 ≤ 10 ^ 30 := fun x hx => by
  obtain ⟨y, hy, rfl⟩ := List.mem_map.mp hx
  have b1 := its.2.2 y hy
  have m1 := Int.mul_le_mul_of_nonneg_right b1.2.2 (show 0 ≤ t by omega)
  have m3 := Int.mul_le_mul_of_nonneg_right (show ((n : Nat) : Int) ≤ 60 by omega) (show 0 ≤ t by omega)
  dsimp only
  omega

end
end Lw
namespace Lw
open PySem PySem.Spec PyProof.Rows L2 Kt
local macro_rules | `(tactic| walk_at "k1") => `(tactic| first
  | with_reducible refine Kt.w_getO ?_
  | fail)
local macro_rules | `(tactic| walk_at "k1") => `(tactic| first
  | with_reducible refine Lw.xw_ok ?_ ?_
  | with_reducible refine Lw.xd_ok ?_ ?_
  | with_reducible refine Lw.xd_okA ?_ ?_
  | with_reducible refine Lw.w_raiseF ?_
  | with_reducible refine Lw.w_raN ?_
  | with_reducible refine Lw.w_raI (by decide) ?_
  | with_reducible refine Lw.w_try1 ?_
  | fail)
local macro_rules | `(tactic| walk_at "k2") => `(tactic| first
  | with_reducible refine Lw.gs_tap ?_
  | fail)
/-- side conditions -/
local macro_rules | `(tactic| walk_at "side") => `(tactic| first
  | assumption
  | rfl
  | decide
  | omega
  | (refine And.intro ?_ ?_ <;> walk_at "side")
  | fail)
local macro_rules | `(tactic| walk_at "k1") => `(tactic| first
  | with_reducible refine Kt.w_seq ?_
  | with_reducible refine Kt.w_asg ?_
  | with_reducible refine Kt.w_nm ?_
  | with_reducible refine Kt.w_if ?_
  | with_reducible refine Kt.w_ret ?_
  | ((with_reducible refine' Kt.w_var ?kte ?_); (case kte => rfl))
  | with_reducible refine Kt.w_c ?_
  | with_reducible refine Kt.w_bin ?_
  | with_reducible refine Kt.w_II0 ?_
  | with_reducible refine Kt.w_add ?_
  | with_reducible refine Kt.w_un ?_
  | with_reducible refine Kt.w_I1 ?_
  | with_reducible refine Kt.w_II ?_ ?_
  | with_reducible refine Kt.w_mul ?_ ?_
  | with_reducible refine Kt.w_pcons ?_
  | with_reducible refine Kt.w_pnil ?_
  | with_reducible refine Kt.w_call ?_
  | with_reducible refine Kt.w_callR ?_
  | with_reducible refine Kt.w_callK ?_
  | ((with_reducible refine' Kt.w_gcall ?kt1 ?kt2 ?_); (case kt1 => rfl); (case kt2 => rfl))
  | ((with_reducible refine' Kt.w_gcallR ?kt1 ?kt2 ?kt3 ?_); (case kt1 => rfl); (case kt2 => rfl); (case kt3 => rfl))
  | with_reducible refine Kt.w_retD ?_
  | with_reducible refine Kt.w_retL ?_
  | with_reducible refine Kt.w_retDR ?_
  | with_reducible refine Kt.w_retLR ?_
  | with_reducible refine Kt.w_cb ?_
  | with_reducible refine Kt.w_i1 ?_
  | with_reducible refine Kt.w_i2 ?_
  | with_reducible refine Kt.w_int ?_
  | ((with_reducible refine' Kt.w_ixt ?kte ?_); (case kte => rfl))
  | ((with_reducible refine' Kt.w_ixr ?ktm ?kte ?_); (case ktm => rfl); (case kte => rfl))
  | ((with_reducible refine' Kt.w_ixl ?kte ?_); (case kte => rfl))
  | with_reducible refine Kt.w_tst ?_
  | with_reducible refine Kt.w_and ?_
  | with_reducible refine Kt.w_or ?_
  | with_reducible refine Kt.w_not ?_
  | with_reducible refine Kt.w_ifE ?_
  | with_reducible refine Kt.w_chn ?_
  | with_reducible refine Kt.w_tup ?_
  | with_reducible refine Kt.w_lst ?_
  | with_reducible refine Kt.w_isi ?_
  | with_reducible refine Kt.w_isiD ?_
  | ((with_reducible refine' Kt.w_isiR ?ktm ?_); (case ktm => rfl))
  | with_reducible refine Kt.w_andV ?_
  | with_reducible refine Kt.w_orV ?_
  | with_reducible refine Kt.w_notV ?_
  | with_reducible refine Kt.w_lnD ?_
  | with_reducible refine Kt.w_lnT ?_
  | with_reducible refine Kt.w_lnS ?_
  | ((with_reducible refine' Kt.w_lnR ?ktm ?_); (case ktm => rfl))
  | with_reducible refine Kt.w_eqII ?_
  | with_reducible refine Kt.w_neII ?_
  | with_reducible refine Kt.w_eqSS ?_
  | with_reducible refine Kt.w_neSS ?_
  | with_reducible refine Kt.w_bt ?_
  | with_reducible refine Kt.w_nbt ?_
  | with_reducible refine Kt.w_nbf ?_
  | with_reducible refine Kt.w_bf ?_
  | ((with_reducible refine Kt.w_dec ?_ ?_) <;> intro _)
  | ((with_reducible refine Kt.w_ndec ?_ ?_) <;> intro _)
  | with_reducible refine Kt.w_par ?_
  | with_reducible refine Kt.w_par3 ?_
  | with_reducible refine Kt.w_drop ?_
  | with_reducible refine Kt.w_next ?_
  | ((with_reducible refine' Kt.w_tp ?kte ?_); (case kte => rfl))
  | with_reducible refine Kt.w_gcons ?_
  | with_reducible refine Kt.w_gnil ?_
  | with_reducible refine Kt.w_for ?_
  | with_reducible refine Kt.w_lc ?_
  | with_reducible refine Kt.w_iLst ?_
  | with_reducible refine Kt.w_iQLd ?_
  | ((with_reducible refine' Kt.w_iQLr ?kte ?_); (case kte => rfl))
  | with_reducible refine Kt.w_iTpl ?_
  | with_reducible refine Kt.w_iQT ?_
  | with_reducible refine Kt.w_iRg1 ?_
  | with_reducible refine Kt.w_iRg2 ?_
  | ((with_reducible refine' Kt.w_iQ1 ?kta ?ktb ?_); (case kta => first | decide | omega); (case ktb => first | decide | omega))
  | ((with_reducible refine' Kt.w_iQ2 ?kta ?_); (case kta => first | decide | omega))
  | with_reducible refine Kt.w_iEnm ?_
  | with_reducible refine Kt.w_iQE ?_
  | with_reducible refine Kt.w_iZp ?_
  | ((with_reducible refine' Kt.w_iQZ ?kte ?_); (case kte => rfl))
  | with_reducible refine Kt.w_kDd ?_
  | ((with_reducible refine' Kt.w_kDr ?kte ?_); (case kte => rfl))
  | with_reducible refine Kt.w_app ?_
  | ((with_reducible refine' Kt.w_isl ?kte ?_); (case kte => first | rfl | assumption | exact Lw.new_at | (simp; done)))
  | ((with_reducible refine' Kt.w_apQ ?kta ?ktb ?ktc ?_); (case kta => rfl); (case ktb => rfl))
  | ((with_reducible refine' Kt.w_ixr ?ktm ?kte ?_); (case ktm => rfl); (case kte => exact L2.atI_last _ _))
  | ((with_reducible refine' Kt.w_ixl ?kte ?_); (case kte => exact L2.atI_last _ _))
  | dsimp only [Kt.asDs, Kt.asD, List.set_cons_zero, List.set_cons_succ, List.nil_append, List.cons_append]
  | fail)
local macro_rules | `(tactic| walk_at "k1") => `(tactic| first
  | with_reducible refine Kt.w_sl ?_
  | with_reducible refine Kt.w_nop ?_
  | with_reducible refine Kt.w_part ?_
  | with_reducible refine Kt.w_paQ ?_
  | ((with_reducible refine' Kt.w_slQr ?ktm ?kte ?_); (case ktm => rfl); (case kte => exact Kt.cut_tail _ _))
  | fail)
local macro_rules | `(tactic| walk_at "k1") => `(tactic| first
  | ((with_reducible refine' Kt.w_pow ?ktc ?kte ?_); (case ktc => walk_at "sz"); (case kte => (simp only [Int.reduceToNat]; rfl)))
  | with_reducible refine Kt.w_gix ?_
  | ((with_reducible refine' Kt.w_giQ ?kta ?ktb ?ktc ?_); (case kta => rfl); (case ktb => rfl); (case ktc => rfl))
  | with_reducible refine Kt.w_cN ?_
  | ((with_reducible refine' Kt.w_cC ?kta ?_); (case kta => exact Lw.small_lt (by simp; done)))
  | ((with_reducible refine Lw.small_line ?_); (simp; done))
  | fail)
local macro_rules | `(tactic| walk_at "sz") => `(tactic| first
  | (exact Lw.Sm.mul (by unfold Lw.Sm; omega) (by unfold Lw.Sm; omega))
  | (exact Lw.divR (by omega) (by omega))
  | (exact Kt.pow_small (by unfold Kt.Sm0; omega) (by omega) (by omega))
  | (exact Lw.small_line (by simp; done))
  | (exact Lw.small_lt (by simp; done))
  | omega
  | decide
  | fail)
local macro_rules | `(tactic| walk_at "sz") => `(tactic| first
  | (exact ⟨by omega, by omega, by omega, by omega, by omega⟩)
  | fail)
local macro_rules | `(tactic| walk_at "k2") => `(tactic| first
  | walk_at "k1"
  | with_reducible refine Lw.gs_draw ?_
  | with_reducible refine And.intro ?_ ?_
  | with_reducible intro _
  | fail)
local macro_rules | `(tactic| walk_at "few") => `(tactic| repeat' (first | exact Kt.all_n | refine Kt.all_c (by exact ⟨_, rfl, by omega, by omega⟩) ?_ | fail))
local macro_rules | `(tactic| walk_at "k1") => `(tactic| first
  | with_reducible refine Kt.w_lcP ?_
  | with_reducible refine Kt.w_iLive ?_
  | ((with_reducible refine' Kt.w_iQV ?kte ?_); (case kte => rfl))
  | fail)

local macro_rules | `(tactic| walk_at "k1") => `(tactic| first
  | with_reducible refine Kt.w_tupE ?_
  | with_reducible refine Kt.w_lstE ?_
  | ((with_reducible refine' Kt.w_tuQ ?kte ?ktl ?_); (case kte => rfl); (case ktl => exact Lw.small_line (by simp)))
  | ((with_reducible refine' Kt.w_lsQ ?kte ?ktl ?_); (case kte => rfl); (case ktl => exact Lw.small_line (by simp)))
  | fail)

local macro_rules | `(tactic| walk_at "k1") => `(tactic| first
  | ((with_reducible refine Kt.w_pDef ?_); dsimp only [List.cons_append, List.nil_append])
  | fail)
local macro_rules | `(tactic| walk_at "k1") => `(tactic| first
  | with_reducible refine Kt.w_slS ?_
  | with_reducible refine Kt.w_asg2 ?_
  | with_reducible refine Kt.w_asg3 ?_
  | with_reducible refine Kt.w_dnew ?_
  | with_reducible refine Kt.w_dset ?_
  | with_reducible refine Kt.w_dget ?_
  | with_reducible refine Kt.w_din ?_
  | ((with_reducible refine' Kt.w_dputI ?kta ?ktb ?ktc ?_); (case kta => rfl))
  | ((with_reducible refine' Kt.w_dgetI ?kta ?ktb ?_); (case kta => rfl); (case ktb => first | rfl | assumption))
  | ((with_reducible refine' Kt.w_dinI ?kta ?_); (case kta => rfl))
  | ((with_reducible refine' Kt.w_lnDI ?kta ?_); (case kta => rfl))
  | fail)

local macro_rules | `(tactic| walk_at "k3") => `(tactic| first
  | with_reducible refine Kt.w_seqAsg2 ?_
  | fail)

local macro_rules | `(tactic| walk_at "k1") => `(tactic| first
  | with_reducible refine Kt.w_d1 ?_
  | with_reducible refine Kt.w_d1I ?_
  | with_reducible refine Kt.w_gc ?_
  | with_reducible refine Kt.w_dm ?_ ?_
  | with_reducible refine Kt.w_str ?_ ?_
  | fail)

local macro_rules | `(tactic| walk_at "k1") => `(tactic| first
  | with_reducible refine Kt.w_rev ?_
  | with_reducible refine Kt.w_revD ?_
  | ((with_reducible refine' Kt.w_tpD ?kte ?_); (case kte => rfl))
  | fail)

local macro_rules | `(tactic| walk_at "k1") => `(tactic| first
  | with_reducible refine Kt.w_lc2 ?_
  | with_reducible refine Kt.w_tru ?_
  | fail)

local macro_rules | `(tactic| walk_at "k1") => `(tactic| first
  | with_reducible refine Kt.w_cont ?_
  | with_reducible refine Kt.w_brk ?_
  | fail)

local macro_rules | `(tactic| walk_at "k1") => `(tactic| first
  | with_reducible refine Kt.w_yes ?_
  | fail)
local macro_rules | `(tactic| walk_at "k1") => `(tactic| first
  | with_reducible refine Kt.w_chn3 ?_
  | fail)
local macro_rules | `(tactic| walk_at "k1") => `(tactic| first
  | with_reducible refine Kt.w_lrg1 ?_
  | with_reducible refine Kt.w_iRg2L ?_
  | fail)
local macro_rules | `(tactic| walk_at "k1") => `(tactic| first
  | with_reducible refine Kt.w_parN ?_
  | with_reducible refine Kt.w_pnQ rfl (Lw.small_line (by simp)) ?_
  | fail)
local macro_rules | `(tactic| walk_at "k3") => `(tactic| first
  | with_reducible refine Kt.w_seqParN ?_
  | fail)
local macro_rules | `(tactic| walk_at "k1") => `(tactic| first
  | with_reducible refine Kt.w_tupT ?_
  | with_reducible refine Kt.w_tpQ ?_
  | with_reducible refine Kt.w_ixT0 ?_
  | with_reducible refine Kt.w_ixT1 ?_
  | with_reducible refine Kt.w_gTpT ?_
  | with_reducible refine Kt.w_retT ?_
  | with_reducible refine Kt.w_lrg3 ?_
  | fail)

local macro_rules | `(tactic| walk_at "k3") => `(tactic| first
  | with_reducible refine Lw.w_seqA ?_
  | with_reducible refine Lw.w_seqPar ?_
  | with_reducible refine Lw.w_seqPar3 ?_
  | with_reducible refine Lw.w_seqApp ?_
  | with_reducible refine Lw.w_seqDrop ?_
  | ((fail_if_success (with_reducible refine Kt.w_seq ?_)); walk_at "k2")
  | dsimp only
  | fail)
local macro_rules | `(tactic| walk_at "mem") => `(tactic| first
  | rfl
  | assumption
  | exact Lw.new_at
  | exact Lw.at_app Lw.new_at
  | exact Lw.at_app (Lw.at_app Lw.new_at)
  | exact Lw.at_app (Lw.at_app (Lw.at_app Lw.new_at))
  | (refine Lw.at_app ?_; walk_at "mem")
  | (refine Lw.at_cons ?_; walk_at "mem")
  | fail)
local macro_rules | `(tactic| walk_at "dr") => `(tactic| first
  | rfl
  | (refine Lw.deref_of ?_; walk_at "mem")
  | (refine Lw.derefS_of ?_; walk_at "mem")
  | (refine Lw.deref_fz ?_; walk_at "mem")
  | (refine Lw.derefS_fz ?_; walk_at "mem")
  | fail)
local macro_rules | `(tactic| walk_at "k1") => `(tactic| first
  | with_reducible refine Lw.w_isNI ?_
  | with_reducible refine Lw.w_isNN ?_
  | with_reducible refine Lw.w_isNT ?_
  | with_reducible refine Lw.w_isNL ?_
  | with_reducible refine Lw.w_isNR ?_
  | with_reducible refine Kt.w_lsD ?_
  | fail)
local macro_rules | `(tactic| walk_at "k1") => `(tactic| first
  | ((with_reducible refine' Kt.w_augI ?kte ?_); (case kte => rfl))
  | fail)
local macro_rules | `(tactic| walk_at "k4") => `(tactic| first
  | ((fail_if_success (with_reducible refine Kt.w_seq ?_)); walk_at "k2")
  | dsimp only
  | fail)
local macro_rules | `(tactic| walk_at "k1") => `(tactic| first
  | with_reducible refine Kt.w_lrg ?_
  | fail)
local macro_rules | `(tactic| walk_at "k1") => `(tactic| first
  | with_reducible refine Kt.w_get2 ?_
  | with_reducible refine Kt.w_slT ?_
  | with_reducible refine Kt.w_reprL ?_
  | fail)
local macro_rules | `(tactic| walk_at "sees") => `(tactic| first
  | exact Kt.SeesAll.nil
  | exact Kt.Sees.d
  | assumption
  | exact Kt.Sees.new
  | (refine Kt.SeesAll.cons ?_ ?_ <;> walk_at "sees")
  | (refine Kt.Sees.app ?_; walk_at "sees")
  | fail)
section
variable {P : Program} {w : World} {K : PySem.W.Frag} {mg : Str → Option Value} {base : Heap}

theorem ok_fore_part {f : Addr} {fd : FuncData} (F : Fun K "fore_part" "fore_part" s_fore_part f fd) (m : mg "fore_part" = some (.ref f))  :
    DefOk P w K mg base "fore_part" s_fore_part ["wheel"] 1 g_fore_part := by
  refine def_mk F m sc_fore_part fun cdv A out sh H E Eh hg hr => ⟨_, (ys_one (y_ret (xop xo_fdiv (xix (xv 0) xint) xint))), fun cs M Qh hlen hgs => ?_⟩
  unfold g_fore_part at hgs; split at hgs
  · rename_i R S
    repeat' walk_at "k1"
    · exact div2 _
    · exact hgs M
  · cases hgs


theorem ok_back_part {f : Addr} {fd : FuncData} (F : Fun K "back_part" "back_part" s_back_part f fd) (m : mg "back_part" = some (.ref f))  :
    DefOk P w K mg base "back_part" s_back_part ["wheel"] 1 g_back_part := by
  refine def_mk F m sc_back_part fun cdv A out sh H E Eh hg hr => ⟨_, (ys_one (y_ret (xop xo_fdiv (xop xo_sub (xix (xv 0) xint) xint) xint))), fun cs M Qh hlen hgs => ?_⟩
  unfold g_back_part at hgs; split at hgs
  · rename_i R S
    repeat' walk_at "k1"
    · exact div2 _
    · exact hgs M
  · cases hgs


theorem ok_rest_at {f : Addr} {fd : FuncData} (F : Fun K "rest_at" "rest_at" s_rest_at f fd) (m : mg "rest_at" = some (.ref f)) (d_back_part : DefOk P w K mg base "back_part" s_back_part ["wheel"] 1 g_back_part) :
    DefOk P w K mg base "rest_at" s_rest_at ["wheel", "field", "place"] 2 g_rest_at := by
  refine def_mk F m sc_rest_at fun cdv A out sh H E Eh hg hr => ⟨_, (ys_cons (y_set (i := 3) sc_rest_at.nd rfl (by first | exact .inl rfl | exact .inr rfl) (y_cd (d_back_part.up (by decide)) b_back_part hg hr (by rfl) takesY (xa_cons (xv 0) xa_nil)))
      (ys_one (y_ret (xop xo_sub (xop xo_mod (xop xo_add (xop xo_sub (xv 1) (xv 2)) (xv 3)) (xix (xv 0) xint)) (xv 3))))), fun cs M Qh hlen hgs => ?_⟩
  unfold g_rest_at at hgs; split at hgs
  · rename_i R S f p
    repeat' (first | walk_at "k1" | dsimp only [g_back_part] | with_reducible refine And.intro ?_ ?_)
    · exact hgs.1
    · exact hgs.2 M
  · cases hgs


theorem ok_aim_at {f : Addr} {fd : FuncData} (F : Fun K "aim_at" "aim_at" s_aim_at f fd) (m : mg "aim_at" = some (.ref f)) (d_rest_at : DefOk P w K mg base "rest_at" s_rest_at ["wheel", "field", "place"] 2 g_rest_at) :
    DefOk P w K mg base "aim_at" s_aim_at ["wheel", "field", "place"] 3 g_aim_at := by
  refine def_mk F m sc_aim_at fun cdv A out sh H E Eh hg hr => ⟨_, (ys_one (y_ret (xop xo_add (xv 2) (y_cd (d_rest_at.up (by decide)) b_rest_at hg hr (by rfl) takesY (xa_cons (xv 0) (xa_cons (xv 1) (xa_cons (xv 2) xa_nil))))))), fun cs M Qh hlen hgs => ?_⟩
  unfold g_aim_at at hgs; split at hgs
  · rename_i R S f p
    repeat' (first | walk_at "k1" | dsimp only [g_rest_at] | with_reducible refine And.intro ?_ ?_)
    · exact hgs.1
    · exact hgs.2 M
  · cases hgs


theorem ok_lost_at {f : Addr} {fd : FuncData} (F : Fun K "lost_at" "lost_at" s_lost_at f fd) (m : mg "lost_at" = some (.ref f)) (d_aim_at : DefOk P w K mg base "aim_at" s_aim_at ["wheel", "field", "place"] 3 g_aim_at) :
    DefOk P w K mg base "lost_at" s_lost_at ["wheel", "field", "place"] 4 g_lost_at := by
  refine def_mk F m sc_lost_at fun cdv A out sh H E Eh hg hr => ⟨_, (ys_one (y_ret (xop xo_fdiv (xop xo_sub (xv 1) (y_cd (d_aim_at.up (by decide)) b_aim_at hg hr (by rfl) takesY (xa_cons (xv 0) (xa_cons (xv 1) (xa_cons (xv 2) xa_nil))))) (xix (xv 0) xint)))), fun cs M Qh hlen hgs => ?_⟩
  unfold g_lost_at at hgs; split at hgs
  · rename_i R S f p
    repeat' (first | walk_at "k1" | dsimp only [g_aim_at] | with_reducible refine And.intro ?_ ?_)
    · exact hgs.1
    · exact divR hgs.1 hgs.2.1
    · exact hgs.2.2 M
  · cases hgs


theorem ok_moved {f : Addr} {fd : FuncData} (F : Fun K "moved" "moved" s_moved f fd) (m : mg "moved" = some (.ref f)) (d_rest_at : DefOk P w K mg base "rest_at" s_rest_at ["wheel", "field", "place"] 2 g_rest_at) (z_abs : mg "abs" = none) :
    DefOk P w K mg base "moved" s_moved ["wheel", "field", "place", "pull", "ticks"] 3 g_moved := by
  refine def_mk F m sc_moved fun cdv A out sh H E Eh hg hr => ⟨_, (ys_cons (y_set (i := 5) sc_moved.nd rfl (by first | exact .inl rfl | exact .inr rfl) (y_cd (d_rest_at.up (by decide)) b_rest_at hg hr (by rfl) takesY (xa_cons (xv 0) (xa_cons (xv 1) (xa_cons (xv 2) xa_nil)))))
      (ys_cons (y_set (i := 6) sc_moved.nd rfl (by first | exact .inl rfl | exact .inr rfl) (xop xo_mul (xv 3) (xv 4)))
      (ys_cons (y_if (xt_cmp xo_le (xcb xc_abs rfl z_abs (by decide +kernel) (xa_cons (xv 5) xa_nil)) (xv 6) (nomark _)) (ys_one (y_ret (xop xo_add (xv 2) (xv 5)))) ys_nil)
      (ys_cons (y_if (xt_cmp xo_gt (xv 5) xint (nomark _)) (ys_one (y_ret (xop xo_add (xv 2) (xv 6)))) ys_nil)
      (ys_one (y_ret (xop xo_sub (xv 2) (xv 6)))))))), fun cs M Qh hlen hgs => ?_⟩
  unfold g_moved at hgs; split at hgs
  · rename_i R S f p u t
    obtain ⟨h1, h2, q⟩ := hgs
    repeat' (first | walk_at "k1" | dsimp only [g_rest_at] | with_reducible refine And.intro ?_ ?_)
    · exact h1
    · exact h2
    · exact w_finI q (by unfold movedI; split at * <;> split <;> omega)
    · exact w_finI q (by unfold movedI; split at * <;> split <;> omega)
    · exact w_finI q (by unfold movedI; split at * <;> split <;> omega)
  · cases hgs


theorem ok_is_number {f : Addr} {fd : FuncData} (F : Fun K "is_number" "is_number" s_is_number f fd) (m : mg "is_number" = some (.ref f)) (z_bool : mg "bool" = none) (z_int : mg "int" = none) (z_isinstance : mg "isinstance" = none) :
    DefOk P w K mg base "is_number" s_is_number ["value"] 1 g_is_number := by
  refine def_mk F m sc_is_number fun cdv A out sh H E Eh hg hr => ⟨_, (ys_one (y_ret (xand (y_isi (T := "int") kit_int rfl z_isinstance rfl z_int (by decide +kernel) (xv 0)) (xone (xnot (y_isi (T := "bool") kit_bool rfl z_isinstance rfl z_bool (by decide +kernel) (xv 0))))))), fun cs M Qh hlen hgs => ?_⟩
  unfold g_is_number at hgs; split at hgs
  · rename_i x
    cases x <;> (repeat' (first | walk_at "k1" | dsimp only [Kt.isInt, Kt.isBool, isN] | with_reducible refine And.intro ?_ ?_)) <;> exact hgs M
  · cases hgs


theorem ok_is_number_from {f : Addr} {fd : FuncData} (F : Fun K "is_number_from" "is_number_from" s_is_number_from f fd) (m : mg "is_number_from" = some (.ref f)) (d_is_number : DefOk P w K mg base "is_number" s_is_number ["value"] 1 g_is_number) :
    DefOk P w K mg base "is_number_from" s_is_number_from ["value", "least"] 2 g_is_number_from := by
  refine def_mk F m sc_is_number_from fun cdv A out sh H E Eh hg hr => ⟨_, (ys_one (y_ret (xand (y_cd (d_is_number.up (by decide)) b_is_number hg hr (by rfl) takesY (xa_cons (xv 0) xa_nil)) (xone (xcmp xo_ge (xv 0) (xv 1) (nomark _)))))), fun cs M Qh hlen hgs => ?_⟩
  unfold g_is_number_from at hgs; split at hgs
  · rename_i x l
    cases x <;> (repeat' (first | walk_at "k1" | dsimp only [g_is_number, isN, geD] | with_reducible refine And.intro ?_ ?_)) <;> exact hgs M
  · cases hgs


theorem ok_is_pair {f : Addr} {fd : FuncData} (F : Fun K "is_pair" "is_pair" s_is_pair f fd) (m : mg "is_pair" = some (.ref f)) (z_isinstance : mg "isinstance" = none) (z_len : mg "len" = none) (z_tuple : mg "tuple" = none) :
    DefOk P w K mg base "is_pair" s_is_pair ["value"] 1 g_is_pair := by
  refine def_mk F m sc_is_pair fun cdv A out sh H E Eh hg hr => ⟨_, (ys_one (y_ret (xand (y_isi (T := "tuple") kit_tuple rfl z_isinstance rfl z_tuple (by decide +kernel) (xv 0)) (xone (xcmp (xo_eq hr) (xcb xc_len rfl z_len (by decide +kernel) (xa_cons (xv 0) xa_nil)) xint (nomark _)))))), fun cs M Qh hlen hgs => ?_⟩
  unfold g_is_pair at hgs; split at hgs
  · rename_i x
    by_cases hx : ∃ xs, x = .tuple xs
    · obtain ⟨xs, rfl⟩ := hx
      repeat' (first | walk_at "k1" | dsimp only [Kt.isTup] | with_reducible refine And.intro ?_ ?_)
      refine w_finB hgs ?_
      match xs with
      | [] => rfl
      | [_] => rfl
      | [_, _] => rfl
      | _ :: _ :: _ :: r => simp [pairD]; omega
    · have e1 : Kt.isTup x = false := by cases x <;> first | rfl | exact (hx ⟨_, rfl⟩).elim
      have e2 : pairD x = false := by cases x <;> first | rfl | exact (hx ⟨_, rfl⟩).elim
      rw [e2] at hgs
      repeat' (first | walk_at "k1" | rw [e1] | with_reducible refine And.intro ?_ ?_)
      exact hgs M
  · cases hgs


theorem ok_check_wheel {f : Addr} {fd : FuncData} (F : Fun K "check_wheel" "check_wheel" s_check_wheel f fd) (m : mg "check_wheel" = some (.ref f)) (d_is_number_from : DefOk P w K mg base "is_number_from" s_is_number_from ["value", "least"] 2 g_is_number_from) (d_is_pair : DefOk P w K mg base "is_pair" s_is_pair ["value"] 1 g_is_pair) :
    DefOk P w K mg base "check_wheel" s_check_wheel ["wheel"] 3 g_check_wheel := by
  refine def_mk F m sc_check_wheel fun cdv A out sh H E Eh hg hr => ⟨_, (ys_cons (y_if (xt_not (xt_val (y_cd (d_is_pair.up (by decide)) b_is_pair hg hr (by rfl) takesY (xa_cons (xv 0) xa_nil)))) (ys_one y_never) ys_nil)
      (ys_cons (y_asg (xv 0) (yg_tup (n := 2) rfl (ygs_cons (yg_name (i := 1) sc_check_wheel.nd rfl (by first | exact .inl rfl | exact .inr rfl)) (ygs_cons (yg_name (i := 2) sc_check_wheel.nd rfl (by first | exact .inl rfl | exact .inr rfl)) ygs_nil))))
      (ys_cons (y_if (xt_not (xt_val (y_cd (d_is_number_from.up (by decide)) b_is_number_from hg hr (by rfl) takesY (xa_cons (xv 1) (xa_cons xint xa_nil))))) (ys_one y_never) ys_nil)
      (ys_one (y_if (YW.t (xw_or (xt_not (xt_val (y_cd (d_is_number_from.up (by decide)) b_is_number_from hg hr (by rfl) takesY (xa_cons (xv 2) (xa_cons xint xa_nil))))) (xw_or1 (xt_cmp xo_gt (xv 2) (xop xo_fdiv (xop xo_sub (xv 1) xint) xint) (nomark _))))) (ys_one y_never) ys_nil))))), fun cs M Qh hlen hgs => ?_⟩
  unfold g_check_wheel at hgs; split at hgs
  · rename_i R S
    obtain ⟨⟨h1, h2, h3⟩, q⟩ := hgs
    repeat' (first | walk_at "k1" | dsimp only [g_is_pair, g_is_number_from, pairD, geD] | with_reducible refine And.intro ?_ ?_)
    all_goals first | exact div2 _ | exact q _ | (exfalso; omega)
  · cases hgs


theorem ok_is_item {f : Addr} {fd : FuncData} (F : Fun K "is_item" "is_item" s_is_item f fd) (m : mg "is_item" = some (.ref f)) (d_is_number : DefOk P w K mg base "is_number" s_is_number ["value"] 1 g_is_number) (d_is_number_from : DefOk P w K mg base "is_number_from" s_is_number_from ["value", "least"] 2 g_is_number_from) (d_is_pair : DefOk P w K mg base "is_pair" s_is_pair ["value"] 1 g_is_pair) :
    DefOk P w K mg base "is_item" s_is_item ["value", "least_tick"] 3 g_is_item := by
  refine def_mk F m sc_is_item fun cdv A out sh H E Eh hg hr => ⟨_, (ys_cons (y_if (xt_not (xt_val (y_cd (d_is_pair.up (by decide)) b_is_pair hg hr (by rfl) takesY (xa_cons (xv 0) xa_nil)))) (ys_one (y_ret xbl)) ys_nil)
      (ys_cons (y_asg (xv 0) (yg_tup (n := 2) rfl (ygs_cons (yg_name (i := 2) sc_is_item.nd rfl (by first | exact .inl rfl | exact .inr rfl)) (ygs_cons (yg_name (i := 3) sc_is_item.nd rfl (by first | exact .inl rfl | exact .inr rfl)) ygs_nil))))
      (ys_one (y_ret (xand (y_cd (d_is_number_from.up (by decide)) b_is_number_from hg hr (by rfl) takesY (xa_cons (xv 2) (xa_cons (xv 1) xa_nil))) (xand (y_cd (d_is_number.up (by decide)) b_is_number hg hr (by rfl) takesY (xa_cons (xv 3) xa_nil)) (xone (xcmp (xo_ne hr) (xv 3) xint (nomark _))))))))), fun cs M Qh hlen hgs => ?_⟩
  unfold g_is_item at hgs; split at hgs
  · rename_i x l
    have other : pairD x = false → itemD x l = false := fun h => by
      unfold pairD at h; unfold itemD
      split <;> first | rfl | (simp at h; done)
    cases hx : pairD x with
    | false =>
      rw [other hx] at hgs
      repeat' (first | walk_at "k1" | dsimp only [g_is_pair] | rw [hx] | with_reducible refine And.intro ?_ ?_)
      exact hgs _
    | true =>
      obtain ⟨a, b, rfl⟩ : ∃ a b, x = .tuple [a, b] := by
        unfold pairD at hx
        split at hx
        · exact ⟨_, _, rfl⟩
        · cases hx
      replace hgs : retD Qh (.bool (geD a l && nzD b)) := hgs
      repeat' (first | walk_at "k1" | dsimp only [g_is_pair, g_is_number_from, g_is_number, pairD] | with_reducible refine And.intro ?_ ?_)
      · intro h1
        rw [h1, Bool.true_and] at hgs
        repeat' (first | walk_at "k1" | dsimp only [g_is_number] | with_reducible refine And.intro ?_ ?_)
        · intro h2
          cases b with
          | int n =>
            repeat' (first | walk_at "k1" | with_reducible refine And.intro ?_ ?_)
            exact hgs _
          | _ => cases h2
        · intro h2
          cases b <;> first | exact hgs _ | cases h2
      · intro h1
        rw [h1, Bool.false_and] at hgs
        exact hgs _
  · cases hgs


theorem ok_check_drive {f : Addr} {fd : FuncData} (F : FunB K "check_drive" s_check_drive f fd) (m : mg "check_drive" = some (.ref f)) (d_is_item : DefOk P w K mg base "is_item" s_is_item ["value", "least_tick"] 3 g_is_item) (c_MOST_ITEMS : ∃ t, mg "MOST_ITEMS" = some (.int 60 t)) (z_enumerate : mg "enumerate" = none) (z_isinstance : mg "isinstance" = none) (z_len : mg "len" = none) (z_list : mg "list" = none) :
    DefOkB P w K mg base "check_drive" s_check_drive ["drive", "ahead"] 4 g_check_drive := by
  obtain ⟨t_MOST_ITEMS, c_MOST_ITEMS⟩ := c_MOST_ITEMS
  refine def_mkB F m sc_check_drive fun cdv A out sh H E Eh hg hr => ⟨_, (ys_cons (y_if (YW.t (xw_or (xt_not (xt_val (y_isi (T := "list") kit_list rfl z_isinstance rfl z_list (by decide +kernel) (xv 0)))) (xw_or1 (xt_cmp xo_gt (xcb xc_len rfl z_len (by decide +kernel) (xa_cons (xv 0) xa_nil)) (y_const rfl c_MOST_ITEMS) (nomark _))))) (ys_one y_never) ys_nil)
      (ys_cons (y_set (i := 2) sc_check_drive.nd rfl (by first | exact .inl rfl | exact .inr rfl) xint)
      (ys_one (y_for passesY rfl (yi_enum rfl z_enumerate (xa_cons (xv 0) xa_nil)) (yg_tup (n := 2) rfl (ygs_cons (yg_name (i := 3) sc_check_drive.nd rfl (by first | exact .inl rfl | exact .inr rfl)) (ygs_cons (yg_name (i := 4) sc_check_drive.nd rfl (by first | exact .inl rfl | exact .inr rfl)) ygs_nil))) (ys_cons (y_if (YW.t (xw_or (xt_not (xt_val (y_cd (d_is_item.up (by decide)) b_is_item hg hr (by rfl) takesY (xa_cons (xv 4) (xa_cons (xv 2) xa_nil))))) (xw_or1 (YW.t (xw_and (xt_val (xv 1)) (xw_and1 (xt_cmp xo_lt (xix (xv 4) xint) xint (nomark _)))))))) (ys_one y_never) ys_nil)
      (ys_one (y_set (i := 2) sc_check_drive.nd rfl (by first | exact .inl rfl | exact .inr rfl) (xop xo_add (xix (xv 4) xint) xint)))))))), fun cs M Qh hlen hgs => ?_⟩
  obtain ⟨xs, ad, rfl, h1, h2, h3, q⟩ : ∃ (xs : List PyData) (ad : Bool), cs = [.d (.list xs), .d (.bool ad)] ∧ xs.length ≤ 60 ∧ driveOk xs 0 ∧ (ad = true → ∀ x ∈ xs, 1 ≤ turnOf x) ∧ retD Qh .none := by
    unfold g_check_drive at hgs; split at hgs
    · exact ⟨_, _, rfl, hgs.1.1, hgs.1.2, nofun, hgs.2⟩
    · exact ⟨_, _, rfl, hgs.1.1, hgs.1.2.1, fun _ => hgs.1.2.2, hgs.2⟩
    · cases hgs
  · skip
    repeat' (first | walk_at "k1" | dsimp only [Kt.isListD] | with_reducible refine And.intro ?_ ?_)
    · exfalso; omega
    · have dr : ∀ (ys : List PyData) (l : Int) (i : Nat) (x : PyData), driveOk ys l → ys[i]? = some x → ∃ l', itemD x l' = true ∧ (i = 0 → l' = l) ∧ (∀ y, 0 < i → ys[i - 1]? = some y → l' = tickOf y + 1) := fun ys => by
        induction ys with
        | nil => intro l i x _ h; simp at h
        | cons y ys ih =>
          intro l i x hd h
          cases i with
          | zero =>
            cases h
            exact ⟨l, hd.1, fun _ => rfl, fun _ z => absurd z (by omega)⟩
          | succ i =>
            obtain ⟨l', a1, a2, a3⟩ := ih (tickOf y + 1) i x hd.2 (by simpa using h)
            refine ⟨l', a1, fun z => absurd z (by omega), fun z _ e => ?_⟩
            cases i with
            | zero =>
              have e' : y = z := by simpa using e
              rw [a2 rfl, e']
            | succ i => exact a3 z (by omega) (by simpa using e)
      refine runL_inv (fun i ρ M' => ∃ c2 c3 l, ρ = [some (.d (.list xs)), some (.d (.bool ad)), some (.d (.int l)), c2, c3] ∧ (i = 0 → l = 0) ∧ (∀ y, 0 < i → xs[i - 1]? = some y → l = tickOf y + 1)) ⟨_, _, 0, rfl, fun _ => rfl, fun _ z => absurd z (by omega)⟩ ?_ ?_
      · rintro i x ρ M' N hx ⟨c2, c3, l, rfl, a1, a2⟩ hN
        obtain ⟨y, ey, rfl⟩ := numbered_get xs 0 i x hx
        have it : itemD y l = true := by
          obtain ⟨l', b1, b2, b3⟩ := dr xs 0 i y h2 ey
          cases i with
          | zero => rw [a1 rfl, ← b2 rfl]; exact b1
          | succ i =>
            have hp : i < xs.length := by have := (List.getElem?_eq_some_iff.mp ey).1; omega
            have e0 : xs[i + 1 - 1]? = some xs[i] := List.getElem?_eq_getElem hp
            rw [a2 _ (by omega) e0, ← b3 _ (by omega) e0]; exact b1
        have hm : y ∈ xs := List.mem_of_getElem? ey
        obtain ⟨t, n, rfl, _, _⟩ := itemD_inv it
        have h3' : ad = true → 1 ≤ n := fun z => h3 z _ hm
        cases ad <;> repeat' (first | walk_at "k1" | dsimp only [g_is_item] | rw [it] | with_reducible refine And.intro ?_ ?_)
        all_goals first | (refine hN _ _ ⟨_, _, t + 1, rfl, fun z => absurd z (by omega), fun z _ e => ?_⟩; rw [show i + 1 - 1 = i from rfl, ey] at e; cases e; rfl) | (exfalso; have := h3' rfl; omega)
      · rintro ρ M' ⟨c2, c3, l, rfl, _⟩
        exact q _


theorem ok_check_number_from {f : Addr} {fd : FuncData} (F : Fun K "check_number_from" "check_number_from" s_check_number_from f fd) (m : mg "check_number_from" = some (.ref f)) (d_is_number_from : DefOk P w K mg base "is_number_from" s_is_number_from ["value", "least"] 2 g_is_number_from) :
    DefOk P w K mg base "check_number_from" s_check_number_from ["value", "least"] 3 g_check_number_from := by
  refine def_mk F m sc_check_number_from fun cdv A out sh H E Eh hg hr => ⟨_, (ys_one (y_if (xt_not (xt_val (y_cd (d_is_number_from.up (by decide)) b_is_number_from hg hr (by rfl) takesY (xa_cons (xv 0) (xa_cons (xv 1) xa_nil))))) (ys_one y_never) ys_nil)), fun cs M Qh hlen hgs => ?_⟩
  unfold g_check_number_from at hgs; split at hgs
  · obtain ⟨h1, q⟩ := hgs
    repeat' (first | walk_at "k1" | dsimp only [g_is_number_from, geD] | with_reducible refine And.intro ?_ ?_)
    all_goals first | exact q _ | (exfalso; omega)
  · cases hgs


theorem ok_check_pull_from {f : Addr} {fd : FuncData} (F : Fun K "check_pull_from" "check_pull_from" s_check_pull_from f fd) (m : mg "check_pull_from" = some (.ref f)) (d_is_number_from : DefOk P w K mg base "is_number_from" s_is_number_from ["value", "least"] 2 g_is_number_from) :
    DefOk P w K mg base "check_pull_from" s_check_pull_from ["pull", "least"] 3 g_check_pull_from := by
  refine def_mk F m sc_check_pull_from fun cdv A out sh H E Eh hg hr => ⟨_, (ys_one (y_if (xt_not (xt_val (y_cd (d_is_number_from.up (by decide)) b_is_number_from hg hr (by rfl) takesY (xa_cons (xv 0) (xa_cons (xv 1) xa_nil))))) (ys_one y_never) ys_nil)), fun cs M Qh hlen hgs => ?_⟩
  unfold g_check_pull_from at hgs; split at hgs
  · rename_i u l
    obtain ⟨h1, q⟩ := hgs
    repeat' (first | walk_at "k1" | dsimp only [g_is_number_from, geD] | with_reducible refine And.intro ?_ ?_)
    all_goals first | exact q _ | (exfalso; omega)
  · cases hgs


theorem ok_check_pull {f : Addr} {fd : FuncData} (F : Fun K "check_pull" "check_pull" s_check_pull f fd) (m : mg "check_pull" = some (.ref f)) (d_check_pull_from : DefOk P w K mg base "check_pull_from" s_check_pull_from ["pull", "least"] 3 g_check_pull_from) :
    DefOk P w K mg base "check_pull" s_check_pull ["pull"] 4 g_check_pull := by
  refine def_mk F m sc_check_pull fun cdv A out sh H E Eh hg hr => ⟨_, (ys_one (y_expr (y_cd (d_check_pull_from.up (by decide)) b_check_pull_from hg hr (by rfl) takesY (xa_cons (xv 0) (xa_cons xint xa_nil))))), fun cs M Qh hlen hgs => ?_⟩
  unfold g_check_pull at hgs; split at hgs
  · rename_i u
    obtain ⟨h1, q⟩ := hgs
    repeat' (first | walk_at "k1" | dsimp only [g_check_pull_from] | with_reducible refine And.intro ?_ ?_)
    all_goals first | exact q _ | assumption
  · cases hgs


theorem ok_is_beginning {f : Addr} {fd : FuncData} (F : Fun K "is_beginning" "is_beginning" s_is_beginning f fd) (m : mg "is_beginning" = some (.ref f)) (d_back_part : DefOk P w K mg base "back_part" s_back_part ["wheel"] 1 g_back_part) (d_fore_part : DefOk P w K mg base "fore_part" s_fore_part ["wheel"] 1 g_fore_part) (d_is_number_from : DefOk P w K mg base "is_number_from" s_is_number_from ["value", "least"] 2 g_is_number_from) :
    DefOk P w K mg base "is_beginning" s_is_beginning ["wheel", "value"] 3 g_is_beginning := by
  refine def_mk F m sc_is_beginning fun cdv A out sh H E Eh hg hr => ⟨_, (ys_one (y_ret (xand (y_cd (d_is_number_from.up (by decide)) b_is_number_from hg hr (by rfl) takesY (xa_cons (xv 1) (xa_cons (xun xo_neg (y_cd (d_fore_part.up (by decide)) b_fore_part hg hr (by rfl) takesY (xa_cons (xv 0) xa_nil))) xa_nil))) (xone (xcmp xo_le (xv 1) (y_cd (d_back_part.up (by decide)) b_back_part hg hr (by rfl) takesY (xa_cons (xv 0) xa_nil)) (nomark _)))))), fun cs M Qh hlen hgs => ?_⟩
  unfold g_is_beginning at hgs; split at hgs
  · rename_i R S x
    cases x <;> (repeat' (first | walk_at "k1" | dsimp only [g_is_number_from, g_fore_part, g_back_part, geD] | with_reducible refine And.intro ?_ ?_)) <;> first | exact hgs _ | exact w_finB hgs (by simp [bgD]; omega)
  · cases hgs


theorem ok_check_beginning {f : Addr} {fd : FuncData} (F : Fun K "check_beginning" "check_beginning" s_check_beginning f fd) (m : mg "check_beginning" = some (.ref f)) (d_is_beginning : DefOk P w K mg base "is_beginning" s_is_beginning ["wheel", "value"] 3 g_is_beginning) :
    DefOk P w K mg base "check_beginning" s_check_beginning ["wheel", "place"] 4 g_check_beginning := by
  refine def_mk F m sc_check_beginning fun cdv A out sh H E Eh hg hr => ⟨_, (ys_one (y_if (xt_not (xt_val (y_cd (d_is_beginning.up (by decide)) b_is_beginning hg hr (by rfl) takesY (xa_cons (xv 0) (xa_cons (xv 1) xa_nil))))) (ys_one y_never) ys_nil)), fun cs M Qh hlen hgs => ?_⟩
  unfold g_check_beginning at hgs; split at hgs
  · rename_i R S p
    obtain ⟨⟨h1, h2⟩, q⟩ := hgs
    have e : bgD R (.int p) = true := by
      show (decide (-(R / 2) ≤ p) && decide (p ≤ (R - 1) / 2)) = true
      rw [decide_eq_true h1, decide_eq_true h2]; rfl
    repeat' (first | walk_at "k1" | dsimp only [g_is_beginning] | rw [e] | with_reducible refine And.intro ?_ ?_)
    all_goals first | exact q _ | (exfalso; omega)
  · cases hgs


theorem ok_summed {f : Addr} {fd : FuncData} (F : Fun K "summed" "summed" s_summed f fd) (m : mg "summed" = some (.ref f)) (z_sorted : mg "sorted" = none) :
    DefOk P w K mg base "summed" s_summed ["items"] 1 g_summed := by
  refine def_mk F m sc_summed fun cdv A out sh H E Eh hg hr => ⟨_, (ys_cons (y_set (i := 1) sc_summed.nd rfl (by first | exact .inl rfl | exact .inr rfl) y_dnew)
      (ys_cons (y_for passesY rfl (yi_list (xv 0)) (yg_tup (n := 2) rfl (ygs_cons (yg_name (i := 2) sc_summed.nd rfl (by first | exact .inl rfl | exact .inr rfl)) (ygs_cons (yg_name (i := 3) sc_summed.nd rfl (by first | exact .inl rfl | exact .inr rfl)) ygs_nil))) (ys_one (y_dset hr (xv 1) (xv 2) (xop xo_add (y_getO hr (xv 1) (xv 2) xint ⟨rfl, rfl, rfl, rfl⟩) (xv 3)))))
      (ys_one (y_ret (y_lc rfl sc_summed.nd (own := [("tick", 2)]) (yi_list (xcb (xc_sortD rfl) rfl z_sorted (by decide +kernel) (xa_cons (xv 1) xa_nil))) (blkOk_by (N := ["items", "turns", "tick", "turn"]) (sc := defScope s_summed) (by decide +kernel)) (fun _ _ _ _ _ => (ygw_name (i := 2) (by decide) (pg_name sc_summed.nd rfl (.inl rfl)))) (fun _ _ _ _ _ => (yts_one (xt_cmp (xo_ne hr) (y_dget hr (fun _ _ => rfl) (xv 1) (xv 2)) xint (nomark _)))) (fun _ _ _ _ _ => (xtup (xa_cons (xv 2) (xa_cons (y_dget hr (fun _ _ => rfl) (xv 1) (xv 2)) xa_nil))))))))), fun cs M Qh hlen hgs => ?_⟩
  unfold g_summed at hgs; split at hgs
  · rename_i xs
    obtain ⟨ds, rfl, dl, q⟩ := hgs
    repeat' (first | walk_at "k2" | fail)
    refine runL_inv (fun i ρ M' => ∃ (ps : List (Int × PyData)) (c2 c3 : Option Cell), ρ = [some (.d (.list (ds.map itD))), some (.r 0), c2, c3] ∧ M'[0]? = some (.dc ps) ∧ (ps.map (·.1)).Nodup ∧ (∀ t, dG ps t = if t ∈ (ds.take i).map (·.1) then some (.int (turnsAt t (ds.take i)).sum) else none) ∧ ps.length ≤ i)
      ⟨[], _, _, rfl, rfl, List.nodup_nil, fun t => by simp [dG], by simp⟩ ?_ ?_
    · rintro i x ρ M' N hx ⟨ps, c2, c3, rfl, hm, nd, hk, hl⟩ hN
      rw [List.getElem?_map] at hx
      cases hd : ds[i]? with
      | none => rw [hd] at hx; cases hx
      | some y =>
        rw [hd] at hx
        cases hx
        obtain ⟨a, n⟩ := y
        have hi := (List.getElem?_eq_some_iff.mp hd).1
        have tk := take_succ_get hd
        repeat' (first | walk_at "k2" | dsimp only [itD] | refine w_getOI hm ?_ | exact isdc hm | fail)
        · exact ⟨_, rfl⟩
        have dk := dPut_keys (i := a) (d := .int ((turnsAt a (ds.take i)).sum + n)) nd
        have dlen := @dPut_len a (.int ((turnsAt a (ds.take i)).sum + n)) ps
        have fin : N [some (.d (.list (ds.map itD))), some (.r 0), some (.d (.int a)), some (.d (.int n))] (M'.set 0 (.dc (dPut ps a (.int ((turnsAt a (ds.take i)).sum + n))))) := by
          refine hN _ _ ⟨_, _, _, rfl, at_self hm, dk.1, fun t => ?_, by omega⟩
          rw [dG_put, hk t, tk, turnsAt_snoc, List.map_append, show [((a, n) : Int × Int)].map (·.1) = [a] from rfl]
          by_cases e : a = t
          · subst e
            rw [if_pos rfl, if_pos rfl, if_pos (List.mem_append.mpr (.inr (List.mem_singleton.mpr rfl)))]
          · rw [if_neg e, if_neg e, Int.add_zero]
            by_cases c : t ∈ (ds.take i).map (·.1)
            · rw [if_pos c, if_pos (List.mem_append.mpr (.inl c))]
            · rw [if_neg c, if_neg fun h => (List.mem_append.mp h).elim c fun h => e (List.mem_singleton.mp h).symm]
        by_cases c : a ∈ (ds.take i).map (·.1)
        · rw [hk a, if_pos c]
          dsimp only
          repeat' (first | walk_at "k2" | refine w_dputI hm nd (small_lt4 (by omega)) ?_ | fail)
          exact fin
        · rw [hk a, if_neg c]
          have z : (turnsAt a (ds.take i)).sum = 0 := by rw [turns_none c]; rfl
          rw [z] at fin
          dsimp only
          repeat' (first | walk_at "k2" | refine w_dputI hm nd (small_lt4 (by omega)) ?_ | fail)
          exact fin
    · rintro ρ M' ⟨ps, c2, c3, rfl, hm, nd, hk, hl⟩
      rw [List.length_map, List.take_length] at hk
      rw [List.length_map] at hl
      have keys : ∀ t, t ∈ ps.map (·.1) ↔ t ∈ ds.map (·.1) := fun t => by
        have e := hk t
        constructor
        · intro h
          by_cases c : t ∈ ds.map (·.1)
          · exact c
          · rw [if_neg c] at e
            exact absurd h (dG_out.mp e)
        · intro h
          rw [if_pos h] at e
          by_cases c : t ∈ ps.map (·.1)
          · exact c
          · rw [dG_out.mpr c] at e
            cases e
      repeat' (first | walk_at "k2" | fail)
      refine w_soD hm fun ys pm pw => ?_
      have ym : ∀ t, t ∈ ys ↔ t ∈ ds.map (·.1) := fun t => pm.mem_iff.trans (keys t)
      have yl : ys.length ≤ 100000 := by rw [pm.length_eq, List.length_map]; omega
      repeat' (first | walk_at "k2" | fail)
      refine w_iQF .new fun M2 f2 => ?_
      have hm2 : M2[0]? = some (.dc ps) := by
        rw [f2.out 0 (cs1 (nr0 (at_lt hm)))]
        exact at_app hm
      refine runC_fmap (f := keepS ds) (h := sumD ds) (by rw [List.length_map]; omega) ?_ ?_
      · intro x hx acc N hlen h1 h2
        obtain ⟨t, ht, rfl⟩ := List.mem_map.mp hx
        have et : dG ps t = some (.int (turnsAt t ds).sum) := by rw [hk t, if_pos ((ym t).mp ht)]
        repeat' (first | walk_at "k2" | refine w_dgetI hm2 et ?_ | fail)
        all_goals first | exact hlen | (rename_i h; exact h1 (decide_eq_true h)) | (rename_i h; exact h2 (decide_eq_false h)) | (rename_i h; exact h2 (decide_eq_false (fun hn => hn h))) | skip
      rw [sums_map]
      repeat' (first | walk_at "k2" | fail)
      exact q _ (sums_of (strict_of pw (pm.nodup_iff.mpr nd)) ym) _ _ new_at
  · cases hgs


theorem ok_check_play {f : Addr} {fd : FuncData} (F : Fun K "check_play" "check_play" s_check_play f fd) (m : mg "check_play" = some (.ref f)) (d_check_beginning : DefOk P w K mg base "check_beginning" s_check_beginning ["wheel", "place"] 4 g_check_beginning) (d_check_drive : DefOkB P w K mg base "check_drive" s_check_drive ["drive", "ahead"] 4 g_check_drive) (d_check_pull : DefOk P w K mg base "check_pull" s_check_pull ["pull"] 4 g_check_pull) (d_check_wheel : DefOk P w K mg base "check_wheel" s_check_wheel ["wheel"] 3 g_check_wheel) :
    DefOk P w K mg base "check_play" s_check_play ["wheel", "pull", "place", "drive"] 5 g_check_play := by
  refine def_mk F m sc_check_play fun cdv A out sh H E Eh hg hr => ⟨_, (ys_cons (y_expr (y_cd (d_check_wheel.up (by decide)) b_check_wheel hg hr (by rfl) takesY (xa_cons (xv 0) xa_nil)))
      (ys_cons (y_expr (y_cd (d_check_pull.up (by decide)) b_check_pull hg hr (by rfl) takesY (xa_cons (xv 1) xa_nil)))
      (ys_cons (y_expr (y_cd (d_check_beginning.up (by decide)) b_check_beginning hg hr (by rfl) takesY (xa_cons (xv 0) (xa_cons (xv 2) xa_nil))))
      (ys_one (y_expr (y_cdB (d_check_drive.up (by decide)) (by decide) b_check_drive hg hr (by rfl) takesY (xa_cons (xv 3) xa_nil))))))), fun cs M Qh hlen hgs => ?_⟩
  unfold g_check_play at hgs; split at hgs
  · rename_i R S u p xs
    obtain ⟨⟨h1, h2, h3, h4, h5⟩, q⟩ := hgs
    repeat' (first | walk_at "k1" | dsimp only [g_check_wheel, g_check_pull, g_check_beginning, g_check_drive] | with_reducible refine And.intro ?_ ?_)
    all_goals first | exact q _ | assumption | exact h3.1 | exact h3.2 
  · cases hgs


theorem ok_marks_of {f : Addr} {fd : FuncData} (F : Fun K "marks_of" "marks_of" s_marks_of f fd) (m : mg "marks_of" = some (.ref f)) (d_moved : DefOk P w K mg base "moved" s_moved ["wheel", "field", "place", "pull", "ticks"] 3 g_moved) :
    DefOk P w K mg base "marks_of" s_marks_of ["wheel", "pull", "place", "drive"] 4 g_marks_of := by
  refine def_mk F m sc_marks_of fun cdv A out sh H E Eh hg hr => ⟨_, (ys_cons (y_set (i := 4) sc_marks_of.nd rfl (by first | exact .inl rfl | exact .inr rfl) (xlst (xa_cons (xtup (xa_cons xint (xa_cons xint (xa_cons (xv 2) xa_nil)))) xa_nil)))
      (ys_cons (y_for passesY rfl (yi_list (xv 3)) (yg_tup (n := 2) rfl (ygs_cons (yg_name (i := 5) sc_marks_of.nd rfl (by first | exact .inl rfl | exact .inr rfl)) (ygs_cons (yg_name (i := 6) sc_marks_of.nd rfl (by first | exact .inl rfl | exact .inr rfl)) ygs_nil))) (ys_cons (y_asg (xix (xv 4) (xun xo_neg xint)) (yg_tup (n := 3) rfl (ygs_cons (yg_name (i := 7) sc_marks_of.nd rfl (by first | exact .inl rfl | exact .inr rfl)) (ygs_cons (yg_name (i := 8) sc_marks_of.nd rfl (by first | exact .inl rfl | exact .inr rfl)) (ygs_cons (yg_name (i := 9) sc_marks_of.nd rfl (by first | exact .inl rfl | exact .inr rfl)) ygs_nil)))))
      (ys_cons (y_set (i := 10) sc_marks_of.nd rfl (by first | exact .inl rfl | exact .inr rfl) (y_cd (d_moved.up (by decide)) b_moved hg hr (by rfl) takesY (xa_cons (xv 0) (xa_cons (xv 8) (xa_cons (xv 9) (xa_cons (xv 1) (xa_cons (xop xo_sub (xv 5) (xv 7)) xa_nil)))))))
      (ys_one (y_app (xv 4) (xtup (xa_cons (xv 5) (xa_cons (xop xo_add (xv 8) (xop xo_mul (xv 6) (xix (xv 0) xint))) (xa_cons (xv 10) xa_nil)))))))))
      (ys_one (y_ret (xv 4))))), fun cs M Qh hlen hgs => ?_⟩
  unfold g_marks_of at hgs; split at hgs
  · rename_i R S u p xs
    obtain ⟨ds, rfl, ⟨h1, h2, h3, h4, h5, h6⟩, q⟩ := hgs
    repeat' (first | walk_at "k1" | with_reducible refine And.intro ?_ ?_)
    · refine runL_inv (fun i ρ M' => ∃ (pre : List (Int × Int × Int)) (now fl here l : Int) (rest : List Item) (c5 c6 c7 c8 c9 c10 : Option Cell), ds.drop i = rest ∧ (pre ++ (now, fl, here) :: marksI R S u rest now fl here) = (0, 0, p) :: marksI R S u ds 0 0 p ∧ pre.length = i ∧
        0 ≤ now ∧ now ≤ l ∧ Asc rest l ∧ M' = [.live (pre.map mkD ++ [.tuple [.int now, .int fl, .int here]])] ∧ ρ = [some (.d (.tuple [.int R, .int S])), some (.d (.int u)), some (.d (.int p)), some (.d (.list (ds.map itD))), some (.r 0), c5, c6, c7, c8, c9, c10])
        ⟨[], 0, 0, p, 0, ds, _, _, _, _, _, _, rfl, rfl, rfl, by omega, by omega, h5, rfl, rfl⟩ ?_ ?_
      · rintro i x ρ M' N hx ⟨pre, now, fl, here, l, rest, c5, c6, c7, c8, c9, c10, e1, e2, e3, e4, e5, e6, rfl, rfl⟩ hN
        rw [List.getElem?_map] at hx
        cases hd : ds[i]? with
        | none => rw [hd] at hx; cases hx
        | some it =>
          rw [hd] at hx
          cases hx
          obtain ⟨t, n⟩ := it
          have hi := (List.getElem?_eq_some_iff.mp hd).1
          have er : rest = (t, n) :: ds.drop (i + 1) := by
            rw [← e1, List.drop_eq_getElem_cons hi, (List.getElem?_eq_some_iff.mp hd).2]
          subst er
          obtain ⟨a1, a2, a3⟩ := e6
          have sm := h6 (t, n) (List.mem_of_getElem? hd)
          have e30 : (10 : Int) ^ 200 = 10 ^ 200 := rfl
          have sm1 : Sm (t - now) := by have := sm.1; unfold Sm at this ⊢; dsimp only at this; omega
          repeat' (first | walk_at "k1" | dsimp only [itD, g_moved] | with_reducible refine And.intro ?_ ?_)
          all_goals first | exact h1 | exact h2.mul sm1 | exact sm.2.mul h3 | (refine small_lt ?_; rw [List.length_append, List.length_map, e3]; simp; omega) | (refine small_line ?_; simp; done) | skip
          · exact hN _ _ ⟨pre ++ [(now, fl, here)], t, fl + n * S, movedI R fl here (u * (t - now)), t + 1, ds.drop (i + 1), _, _, _, _, _, _, rfl, by rw [List.append_assoc]; exact e2, by rw [List.length_append, e3] <;> rfl, by omega, by omega, a3, by rw [List.map_append] <;> rfl, rfl⟩
      · rintro ρ M' ⟨pre, now, fl, here, l, rest, c5, c6, c7, c8, c9, c10, e1, e2, e3, e4, e5, e6, rfl, rfl⟩
        rw [List.length_map, List.drop_length] at e1
        subst e1
        repeat' walk_at "k1"
        refine q 0 _ ?_
        rw [← e2, List.map_append]
        rfl
  · cases hgs


theorem ok_play {f : Addr} {fd : FuncData} (F : Fun K "play" "play" s_play f fd) (m : mg "play" = some (.ref f)) (d_check_play : DefOk P w K mg base "check_play" s_check_play ["wheel", "pull", "place", "drive"] 5 g_check_play) (d_lost_at : DefOk P w K mg base "lost_at" s_lost_at ["wheel", "field", "place"] 4 g_lost_at) (d_marks_of : DefOk P w K mg base "marks_of" s_marks_of ["wheel", "pull", "place", "drive"] 4 g_marks_of) :
    DefOk P w K mg base "play" s_play ["wheel", "pull", "place", "drive"] 6 g_play := by
  refine def_mk F m sc_play fun cdv A out sh H E Eh hg hr => ⟨_, (ys_cons (y_expr (y_cd (d_check_play.up (by decide)) b_check_play hg hr (by rfl) takesY (xa_cons (xv 0) (xa_cons (xv 1) (xa_cons (xv 2) (xa_cons (xv 3) xa_nil))))))
      (ys_cons (y_set (i := 4) sc_play.nd rfl (by first | exact .inl rfl | exact .inr rfl) (y_cd (d_marks_of.up (by decide)) b_marks_of hg hr (by rfl) takesY (xa_cons (xv 0) (xa_cons (xv 1) (xa_cons (xv 2) (xa_cons (xv 3) xa_nil))))))
      (ys_one (y_ret (y_lc rfl sc_play.nd (own := [("tick", 5), ("field", 6), ("here", 7)]) (yi_list (xsl (xv 4) (xo_some xint) xo_none)) (blkOk_by (N := ["wheel", "pull", "place", "drive", "marks", "tick", "field", "here"]) (sc := defScope s_play) (by decide +kernel)) (fun _ _ _ _ _ => (ygw_tup (K := K) (n := 3) rfl rfl (ygsw_cons (ygw_name (i := 5) (by decide) (pg_name sc_play.nd rfl (.inl rfl))) (ygsw_cons (ygw_name (i := 6) (by decide) (pg_name sc_play.nd rfl (.inl rfl))) (ygsw_cons (ygw_name (i := 7) (by decide) (pg_name sc_play.nd rfl (.inl rfl))) ygsw_nil))))) (fun _ _ _ _ _ => yts_nil) (fun _ _ _ _ _ => (xtup (xa_cons (xv 5) (xa_cons (xv 7) (xa_cons (y_cdb rfl (d_lost_at.up (by decide)) b_lost_at hg hr (by rfl) takesB (xa_cons (xv 0) (xa_cons (xv 6) (xa_cons (xv 7) xa_nil)))) xa_nil)))))))))), fun cs M Qh hlen hgs => ?_⟩
  unfold g_play at hgs; split at hgs
  · rename_i R S u p xs
    obtain ⟨ds, rfl, ok, q⟩ := hgs
    have smS := ok.smS
    obtain ⟨h1, h2, h3, h4, h5, h6, h7, h8⟩ := ok
    have hR : 0 < R := by have := h1.1; omega
    repeat' (first | walk_at "k1" | dsimp only [g_check_play, g_marks_of, g_lost_at] | with_reducible refine Exists.intro ds (And.intro rfl ?_) | with_reducible refine And.intro ?_ ?_)
    all_goals first | assumption | (rw [List.length_map]; assumption) | (exact asc_ok h7) | omega | skip
    refine runC_map (f := lostD R) ?_ ?_ ?_
    · rw [List.length_map, marksI_len]; omega
    · intro x hx K hK
      obtain ⟨⟨t, fl, he⟩, _, rfl⟩ := List.mem_map.mp hx
      repeat' (first | walk_at "k1" | dsimp only [mkD, g_lost_at] | with_reducible refine And.intro ?_ ?_)
      · exact hR
      · exact h2
      · exact hK
    · refine q _ _ ?_
      unfold plI
      rw [List.map_map, List.map_map]
      rfl
  · cases hgs


theorem ok_slips {f : Addr} {fd : FuncData} (F : Fun K "slips" "slips" s_slips f fd) (m : mg "slips" = some (.ref f)) (d_play : DefOk P w K mg base "play" s_play ["wheel", "pull", "place", "drive"] 6 g_play) (z_enumerate : mg "enumerate" = none) :
    DefOk P w K mg base "slips" s_slips ["wheel", "pull", "place", "drive"] 7 g_slips := by
  refine def_mk F m sc_slips fun cdv A out sh H E Eh hg hr => ⟨_, (ys_cons (y_set (i := 4) sc_slips.nd rfl (by first | exact .inl rfl | exact .inr rfl) xint)
      (ys_cons (y_set (i := 5) sc_slips.nd rfl (by first | exact .inl rfl | exact .inr rfl) (xlst xa_nil))
      (ys_cons (y_for passesY rfl (yi_enum rfl z_enumerate (xa_cons (y_cd (d_play.up (by decide)) b_play hg hr (by rfl) takesY (xa_cons (xv 0) (xa_cons (xv 1) (xa_cons (xv 2) (xa_cons (xv 3) xa_nil))))) xa_nil)) (yg_tup (n := 2) rfl (ygs_cons (yg_name (i := 6) sc_slips.nd rfl (by first | exact .inl rfl | exact .inr rfl)) (ygs_cons (yg_name (i := 7) sc_slips.nd rfl (by first | exact .inl rfl | exact .inr rfl)) ygs_nil))) (ys_cons (y_set (i := 8) sc_slips.nd rfl (by first | exact .inl rfl | exact .inr rfl) (xix (xv 7) xint))
      (ys_cons (y_if (xt_cmp (xo_ne hr) (xv 8) (xv 4) (nomark _)) (ys_one (y_app (xv 5) (xtup (xa_cons (xv 6) (xa_cons (xop xo_sub (xv 8) (xv 4)) xa_nil))))) ys_nil)
      (ys_one (y_set (i := 4) sc_slips.nd rfl (by first | exact .inl rfl | exact .inr rfl) (xv 8))))))
      (ys_one (y_ret (xv 5)))))), fun cs M Qh hlen hgs => ?_⟩
  unfold g_slips at hgs; split at hgs
  · rename_i R S u p xs
    obtain ⟨ds, rfl, ok, q⟩ := hgs
    repeat' (first | walk_at "k1" | dsimp only [g_play] | with_reducible refine Exists.intro ds (And.intro rfl ?_) | with_reducible refine And.intro ?_ ?_)
    · exact ok
    · have hl : (lostsI R S u ds p).length = (plI R S u ds p).length := by unfold lostsI; rw [List.length_map]
      refine runL_inv (fun i ρ M' => ∃ (acc : List (Int × Int)) (b : Int) (c6 c7 c8 : Option Cell), acc ++ slI i b ((lostsI R S u ds p).drop i) = slI 0 0 (lostsI R S u ds p) ∧ acc.length ≤ i ∧ (∃ M2, M' = .live (acc.map itD) :: M2) ∧
        ρ = [some (.d (.tuple [.int R, .int S])), some (.d (.int u)), some (.d (.int p)), some (.d (.list (ds.map itD))), some (.d (.int b)), some (.r 0), c6, c7, c8]) ⟨[], 0, _, _, _, rfl, Nat.le_refl _, ⟨_, rfl⟩, rfl⟩ ?_ ?_
      · rintro i x ρ M' N hx ⟨acc, b, c6, c7, c8, e1, e2, ⟨M2, rfl⟩, rfl⟩ hN
        obtain ⟨y, ey, rfl⟩ := numbered_get _ 0 i x hx
        rw [List.getElem?_map] at ey
        cases hd : (plI R S u ds p)[i]? with
        | none => rw [hd] at ey; cases ey
        | some it =>
          rw [hd] at ey
          cases ey
          obtain ⟨t, h, l⟩ := it
          have hi := (List.getElem?_eq_some_iff.mp hd).1
          have hi60 : i < 60 := by rw [plI_len] at hi; have := ok.2.2.2.2.2.1; omega
          have gl : (lostsI R S u ds p)[i]? = some l := by unfold lostsI; rw [List.getElem?_map, hd] <;> rfl
          have er : (lostsI R S u ds p).drop i = l :: (lostsI R S u ds p).drop (i + 1) := by
            rw [List.drop_eq_getElem_cons (by omega), (List.getElem?_eq_some_iff.mp gl).2]
          rw [er, slI_cons] at e1
          repeat' (first | walk_at "k1" | dsimp only [mkD] | with_reducible refine And.intro ?_ ?_)
          · rw [List.length_map]; exact small_lt (by omega)
          · rw [if_neg (by assumption), ← List.append_assoc] at e1
            exact hN _ _ ⟨acc ++ [(((0 + i : Nat) : Int), l - b)], l, _, _, _, by rw [← e1]; congr 3 <;> simp, by rw [List.length_append]; simp; omega, ⟨_, live_app itD acc (((0 + i : Nat) : Int), l - b) _⟩, rfl⟩
          · rw [if_pos (by assumption), List.nil_append] at e1
            exact hN _ _ ⟨acc, l, _, _, _, by rw [← e1]; congr 2 <;> simp, by omega, ⟨_, rfl⟩, rfl⟩
      · rintro ρ M' ⟨acc, b, c6, c7, c8, e1, e2, ⟨M2, rfl⟩, rfl⟩
        repeat' walk_at "k1"
        refine q 0 _ ?_
        rw [num_len, List.length_map, ← hl, List.drop_length] at e1
        rw [← e1]
        show _ = some (MC.live ((acc ++ []).map itD))
        rw [List.append_nil] <;> rfl
  · cases hgs


theorem ok_is_kept {f : Addr} {fd : FuncData} (F : Fun K "is_kept" "is_kept" s_is_kept f fd) (m : mg "is_kept" = some (.ref f)) (d_slips : DefOk P w K mg base "slips" s_slips ["wheel", "pull", "place", "drive"] 7 g_slips) :
    DefOk P w K mg base "is_kept" s_is_kept ["wheel", "pull", "place", "drive"] 8 g_is_kept := by
  refine def_mk F m sc_is_kept fun cdv A out sh H E Eh hg hr => ⟨_, (ys_one (y_ret (xcmp (xo_eq hr) (y_cd (d_slips.up (by decide)) b_slips hg hr (by rfl) takesY (xa_cons (xv 0) (xa_cons (xv 1) (xa_cons (xv 2) (xa_cons (xv 3) xa_nil))))) (xlst xa_nil) (nomark _)))), fun cs M Qh hlen hgs => ?_⟩
  unfold g_is_kept at hgs; split at hgs
  · rename_i R S u p xs
    obtain ⟨ds, rfl, ok, q⟩ := hgs
    repeat' (first | walk_at "k1" | dsimp only [g_slips] | with_reducible refine Exists.intro ds (And.intro rfl ?_) | with_reducible refine And.intro ?_ ?_)
    · exact ok
    · refine w_eqG rfl rfl (w_eqL (Fl.sh (slI_flat (n := 0)) (Fl.lst (n := 1) fun x hx => by cases hx) (by decide) (by decide)) rfl ?_)
      rw [eqvAll_nil]
      have := q
      refine w_finB q ?_
      cases slI 0 0 (lostsI R S u ds p) <;> rfl
  · cases hgs


theorem ok_check_slack {f : Addr} {fd : FuncData} (F : Fun K "check_slack" "check_slack" s_check_slack f fd) (m : mg "check_slack" = some (.ref f)) (d_check_drive : DefOkB P w K mg base "check_drive" s_check_drive ["drive", "ahead"] 4 g_check_drive) (d_check_pull : DefOk P w K mg base "check_pull" s_check_pull ["pull"] 4 g_check_pull) (d_check_wheel : DefOk P w K mg base "check_wheel" s_check_wheel ["wheel"] 3 g_check_wheel) :
    DefOk P w K mg base "check_slack" s_check_slack ["wheel", "low", "drive"] 5 g_check_slack := by
  refine def_mk F m sc_check_slack fun cdv A out sh H E Eh hg hr => ⟨_, (ys_cons (y_expr (y_cd (d_check_wheel.up (by decide)) b_check_wheel hg hr (by rfl) takesY (xa_cons (xv 0) xa_nil)))
      (ys_cons (y_expr (y_cd (d_check_pull.up (by decide)) b_check_pull hg hr (by rfl) takesY (xa_cons (xv 1) xa_nil)))
      (ys_one (y_expr (y_cdF (d_check_drive.up (by decide)) bf_check_drive hg hr (by rfl) takesY (xa_cons (xv 2) (xa_cons xbl xa_nil))))))), fun cs M Qh hlen hgs => ?_⟩
  unfold g_check_slack at hgs; split at hgs
  · rename_i R S u xs
    obtain ⟨ds, rfl, ⟨wh, hu, hl, ha, hb⟩, q⟩ := hgs
    have dk1 : (ds.map itD).length ≤ 60 := by rw [List.length_map]; exact hl
    have dk2 : driveOk (ds.map itD) 0 := asc_ok ha
    have dk3 : ∀ x ∈ ds.map itD, 1 ≤ turnOf x := fun x hx => by
      obtain ⟨y, hy, rfl⟩ := List.mem_map.mp hx
      exact (hb y hy).2.1
    repeat' (first | walk_at "k1" | dsimp only [g_check_wheel, g_check_pull, g_check_drive] | with_reducible refine And.intro ?_ ?_)
    all_goals first | exact q _ | assumption
  · cases hgs


theorem ok_rows_over {f : Addr} {fd : FuncData} (F : Fun K "rows_over" "rows_over" s_rows_over f fd) (m : mg "rows_over" = some (.ref f)) (d_fore_part : DefOk P w K mg base "fore_part" s_fore_part ["wheel"] 1 g_fore_part) (z_len : mg "len" = none) (z_range : mg "range" = none) :
    DefOk P w K mg base "rows_over" s_rows_over ["wheel", "drive"] 2 g_rows_over := by
  refine def_mk F m sc_rows_over fun cdv A out sh H E Eh hg hr => ⟨_, (ys_cons (y_set (i := 2) sc_rows_over.nd rfl (by first | exact .inl rfl | exact .inr rfl) (xlst xa_nil))
      (ys_cons (y_for passesY rfl (yi_rng1 rfl z_range (xa_cons (xcb xc_len rfl z_len (by decide +kernel) (xa_cons (xv 1) xa_nil)) xa_nil)) (yg_name (i := 3) sc_rows_over.nd rfl (by first | exact .inl rfl | exact .inr rfl)) (ys_cons (y_set (i := 4) sc_rows_over.nd rfl (by first | exact .inl rfl | exact .inr rfl) (xun xo_neg (y_cd (d_fore_part.up (by decide)) b_fore_part hg hr (by rfl) takesY (xa_cons (xv 0) xa_nil))))
      (ys_one (y_for passesY rfl (yi_rng2 rfl z_range (xa_cons (xv 3) (xa_cons (xcb xc_len rfl z_len (by decide +kernel) (xa_cons (xv 1) xa_nil)) xa_nil))) (yg_name (i := 5) sc_rows_over.nd rfl (by first | exact .inl rfl | exact .inr rfl)) (ys_cons (y_augA (i := 4) sc_rows_over.nd rfl (by first | exact .inl rfl | exact .inr rfl) (xop xo_mul (xix (xix (xv 1) (xv 5)) xint) (xix (xv 0) xint)))
      (ys_one (y_if (xt_cmp xo_gt (xv 4) xint (nomark _)) (ys_one (y_app (xv 2) (xtup (xa_cons (xv 3) (xa_cons (xv 5) (xa_cons (xv 4) xa_nil)))))) ys_nil)))))))
      (ys_one (y_ret (xv 2))))), fun cs M Qh hlen hgs => ?_⟩
  unfold g_rows_over at hgs; split at hgs
  · rename_i R S xs
    obtain ⟨ds, rfl, ⟨wh, hR, hl, hb⟩, q⟩ := hgs
    obtain ⟨w1, w2, w3⟩ := id wh
    repeat' (first | walk_at "k2" | fail)
    rw [List.length_map]
    refine w_iQ1 (by omega) (by omega) ?_
    generalize hF : R / 2 = F at *
    refine runL_inv (fun i ρ M' => ∃ (L : List (Int × Int × Int)) (c3 c4 c5 : Option Cell), ρ = [some (.d (.tuple [.int R, .int S])), some (.d (.list (ds.map itD))), some (.r 0), c3, c4, c5] ∧ M'[0]? = some (.live (L.map rowT)) ∧ L = ((List.range i).flatMap fun i => rowsAt F S ds i (ds.length - i)) ∧ L.length ≤ 60 * i)
      ⟨[], _, _, _, rfl, rfl, rfl, by simp⟩ ?_ ?_
    · rintro i x ρ M' N hx ⟨L, c3, c4, c5, rfl, hm, hL, hLl⟩ hN
      obtain ⟨hi, rfl⟩ := ints_get hx
      have hi2 : i < ds.length := by omega
      repeat' (first | walk_at "k2" | dsimp only [g_fore_part] | fail)
      rw [List.length_map, hF]
      refine w_iQ2 (by omega) ?_
      rw [show ((ds.length : Nat) : Int) - (i : Int) = ((ds.length - i : Nat) : Int) by omega, Int.toNat_natCast]
      refine runL_inv (fun j ρ M' => ∃ c5, ρ = [some (.d (.tuple [.int R, .int S])), some (.d (.list (ds.map itD))), some (.r 0), some (.d (.int (i : Int))), some (.d (.int (S * (((ds.drop i).take j).map (·.2)).sum - F))), c5] ∧ M'[0]? = some (.live ((L ++ rowsAt F S ds i j).map rowT)))
        ⟨c5, by rw [List.take_zero, List.map_nil, List.sum_nil, Int.mul_zero, Int.zero_sub], by rw [show rowsAt F S ds i 0 = [] from rfl, List.append_nil]; exact hm⟩ ?_ ?_
      · rintro j x ρ M2 N2 hx ⟨c5, rfl, hm2⟩ hN2
        obtain ⟨hj, rfl⟩ := ints_getL hx
        have hij : i + j < ds.length := by omega
        obtain ⟨⟨t, n⟩, hd⟩ : ∃ y, ds[i + j]? = some y := ⟨_, List.getElem?_eq_getElem hij⟩
        have bn := hb _ (List.mem_of_getElem? hd)
        dsimp only at bn
        have on := over_next (F := F) (S := S) hd
        dsimp only at on
        have ov : overI F S ds i (i + j) = S * (((ds.drop i).take (j + 1)).map (·.2)).sum - F := by unfold overI; rw [show i + j + 1 - i = j + 1 by omega]
        have rn := rows_next (F := F) (S := S) (ds := ds) (i := i) (j := j)
        have rl := @rows_at_len F S ds i j
        rw [ov, on] at rn
        have ed : L2.atI (ds.map itD) ((i : Int) + (j : Int)) = some (itD (t, n)) := by
          rw [← Int.natCast_add]
          exact L2.atI_nat (by rw [List.getElem?_map, hd]; rfl)
        have sz : (L ++ rowsAt F S ds i j).length ≤ 4000 := by rw [List.length_append]; omega
        have sl : ((L ++ rowsAt F S ds i j).map rowT).length < sizeLine := by rw [List.length_map]; exact small_lt4 (by omega)
        generalize (((ds.drop i).take j).map (·.2)).sum = sm at *
        repeat' (first | walk_at "k2" | refine w_ixl ed ?_ | dsimp only [itD] | refine w_apQ rfl hm2 sl ?_ | fail)
        · exact Sm.mul ⟨by omega, by omega⟩ ⟨by omega, by omega⟩
        · rename_i h
          refine hN2 _ _ ⟨some (.d (.int ((i : Int) + (j : Int)))), by rw [on], ?_⟩
          rw [rn, if_pos h, ← List.append_assoc, List.map_append (l₂ := [_])]
          exact at_self hm2
        · rename_i h
          refine hN2 _ _ ⟨some (.d (.int ((i : Int) + (j : Int)))), by rw [on], ?_⟩
          rw [rn, if_neg h, List.append_nil]
          exact hm2
      · rintro ρ M2 ⟨c5, rfl, hm2⟩
        rw [ints_len] at hm2
        refine hN _ _ ⟨L ++ rowsAt F S ds i (ds.length - i), _, _, _, rfl, hm2, by rw [hL, List.range_succ, List.flatMap_append]; simp, ?_⟩
        have rl := @rows_at_len F S ds i (ds.length - i)
        rw [List.length_append]
        omega
    · rintro ρ M' ⟨L, c3, c4, c5, rfl, hm, hL, hLl⟩
      rw [ints_len] at hL
      repeat' (first | walk_at "k2" | fail)
      rw [show L = rowsI F S ds from by rw [hL]; unfold rowsI; congr 1] at hm
      exact q _ _ hm
  · cases hgs


theorem ok_least_change {f : Addr} {fd : FuncData} (F : Fun K "least_change" "least_change" s_least_change f fd) (m : mg "least_change" = some (.ref f)) (z_max : mg "max" = none) :
    DefOk P w K mg base "least_change" s_least_change ["low", "drive", "row"] 1 g_least_change := by
  refine def_mk F m sc_least_change fun cdv A out sh H E Eh hg hr => ⟨_, (ys_cons (y_asg (xv 2) (yg_tup (n := 3) rfl (ygs_cons (yg_name (i := 3) sc_least_change.nd rfl (by first | exact .inl rfl | exact .inr rfl)) (ygs_cons (yg_name (i := 4) sc_least_change.nd rfl (by first | exact .inl rfl | exact .inr rfl)) (ygs_cons (yg_name (i := 5) sc_least_change.nd rfl (by first | exact .inl rfl | exact .inr rfl)) ygs_nil)))))
      (ys_cons (y_set (i := 6) sc_least_change.nd rfl (by first | exact .inl rfl | exact .inr rfl) (xop xo_sub (xop xo_sub (xix (xix (xv 1) (xv 4)) xint) (xix (xix (xv 1) (xv 3)) xint)) (xop xo_fdiv (xop xo_sub (xv 5) xint) (xv 0))))
      (ys_one (y_ret (xcb (xc_max rfl) rfl z_max (by decide +kernel) (xa_cons xint (xa_cons (xop xo_fdiv (xop xo_add (xv 6) xint) xint) xa_nil))))))), fun cs M Qh hlen hgs => ?_⟩
  unfold g_least_change at hgs; split at hgs
  · rename_i u xs i j o
    obtain ⟨ds, a, b, ⟨ta, na⟩, ⟨tb, nb⟩, rfl, ⟨rfl, rfl, ha, hb, ⟨u1, u2, o1, o2⟩, ⟨x1, x2⟩, y1, y2⟩, q⟩ := hgs
    dsimp only at x1 x2 y1 y2 q
    have d1 : 0 ≤ (o - 1) / u := Int.ediv_nonneg (by omega) (by omega)
    have d2 : (o - 1) / u ≤ o - 1 := Int.ediv_le_self _ (by omega)
    have ea : L2.atI (ds.map itD) (a : Int) = some (itD (ta, na)) := L2.atI_nat (by rw [List.getElem?_map, ha]; rfl)
    have eb : L2.atI (ds.map itD) (b : Int) = some (itD (tb, nb)) := L2.atI_nat (by rw [List.getElem?_map, hb]; rfl)
    repeat' (first | walk_at "k2" | refine w_ixl ea ?_ | refine w_ixl eb ?_ | dsimp only [itD] | fail)
    all_goals first | exact divR (by omega) (by omega) | skip
    rw [show (if (tb - ta - (o - 1) / u + 1) / 2 > 0 then (tb - ta - (o - 1) / u + 1) / 2 else 0) = changeI u ta tb o from by unfold changeI; split <;> omega]
    exact q _
  · cases hgs


theorem ok_weakest {f : Addr} {fd : FuncData} (F : Fun K "weakest" "weakest" s_weakest f fd) (m : mg "weakest" = some (.ref f)) (d_least_change : DefOk P w K mg base "least_change" s_least_change ["low", "drive", "row"] 1 g_least_change) (d_rows_over : DefOk P w K mg base "rows_over" s_rows_over ["wheel", "drive"] 2 g_rows_over) (z_min : mg "min" = none) :
    DefOk P w K mg base "weakest" s_weakest ["wheel", "low", "drive"] 3 g_weakest := by
  refine def_mk F m sc_weakest fun cdv A out sh H E Eh hg hr => ⟨_, (ys_cons (y_set (i := 3) sc_weakest.nd rfl (by first | exact .inl rfl | exact .inr rfl) (y_cd (d_rows_over.up (by decide)) b_rows_over hg hr (by rfl) takesY (xa_cons (xv 0) (xa_cons (xv 2) xa_nil))))
      (ys_cons (y_if (xt_not (xt_tru (xv 3))) (ys_one (y_ret xnon)) ys_nil)
      (ys_cons (y_if (xt_cmp (xo_eq hr) (xv 1) xint (nomark _)) (ys_one (y_ret (xtup (xa_cons xint (xa_cons (xix (xv 3) xint) xa_nil))))) ys_nil)
      (ys_one (y_ret (xcb (xc_minD hr rfl) rfl z_min (by decide +kernel) (xa_cons (y_lc rfl sc_weakest.nd (own := [("row", 4)]) (yi_list (xv 3)) (blkOk_by (N := ["wheel", "low", "drive", "rows", "row"]) (sc := defScope s_weakest) (by decide +kernel)) (fun _ _ _ _ _ => (ygw_name (i := 4) (by decide) (pg_name sc_weakest.nd rfl (.inl rfl)))) (fun _ _ _ _ _ => yts_nil) (fun _ _ _ _ _ => (xtup (xa_cons (y_cdb rfl (d_least_change.up (by decide)) b_least_change hg hr (by rfl) takesB (xa_cons (xv 1) (xa_cons (xv 2) (xa_cons (xv 4) xa_nil)))) (xa_cons (xv 4) xa_nil))))) xa_nil))))))), fun cs M Qh hlen hgs => ?_⟩
  unfold g_weakest at hgs; split at hgs
  · rename_i R S u xs
    obtain ⟨ds, rfl, ⟨wh, hR, hu, hu2, hl, ha, hb⟩, q1, q2⟩ := hgs
    obtain ⟨w1, w2, w3⟩ := id wh
    repeat' (first | walk_at "k3" | fail)
    refine ⟨ds, rfl, ⟨wh, hR, hl, fun x hx => by have := (hb x hx).2; omega⟩, w_retL ?_⟩
    cases hr : rowsI (R / 2) S ds with
    | nil =>
      repeat' (first | walk_at "k2" | refine w_truF .new ?_ | fail)
      · exact q1 hr _
      · rename_i h _
        cases h
      · rename_i h _
        cases h
    | cons r0 rs =>
      rw [hr] at q2
      repeat' (first | walk_at "k2" | refine w_truF .new ?_ | fail)
      · rename_i h
        cases h
      · refine w_ixr (xs := (r0 :: rs).map rowT) (deref_of rfl) (L2.atI_nat (j := 0) rfl) ?_
        repeat' (first | walk_at "k2" | fail)
        have z : ∀ x, chU u ds x = 0 := fun x => if_pos ‹u = 0›
        have := q2 r0 List.mem_cons_self fun x _ => by rw [z, z]; exact Int.le_refl _
        rw [z] at this
        exact this _
      · rename_i hu0
        have u1 : u ≠ 0 := hu0
        have mem : ∀ x ∈ r0 :: rs, x ∈ rowsI (R / 2) S ds := fun x hx => by rw [hr]; exact hx
        have rl : (r0 :: rs).length ≤ 1000000 := by
          have := @rows_len (R / 2) S ds
          have : ds.length * ds.length ≤ 60 * 60 := Nat.mul_le_mul hl hl
          rw [← hr]
          omega
        refine runC_map (f := chD u ds) (by rw [List.length_map]; exact rl) (fun x hx K hK => ?_) ?_
        · obtain ⟨row, hrow, rfl⟩ := List.mem_map.mp hx
          obtain ⟨i, j, rfl, hij, hj, ho⟩ := rows_mem.mp (mem row hrow)
          obtain ⟨x, hx⟩ : ∃ x, ds[i]? = some x := ⟨_, List.getElem?_eq_getElem (by omega)⟩
          obtain ⟨y, hy⟩ : ∃ y, ds[j]? = some y := ⟨_, List.getElem?_eq_getElem hj⟩
          have bx := hb x (List.mem_of_getElem? hx)
          have by' := hb y (List.mem_of_getElem? hy)
          have ob := over_bd (R := R) (S := S) (i := i) (j := j) ⟨by omega, by omega⟩ (by omega) hl fun x hx => (hb x hx).2
          have ec : chU u ds ((i : Int), (j : Int), overI (R / 2) S ds i j) = changeI u x.1 y.1 (overI (R / 2) S ds i j) := by
            unfold chU
            rw [if_neg u1]
            dsimp only
            rw [tkU_get hx, tkU_get hy]
          repeat' (first | walk_at "k2" | fail)
          refine ⟨ds, i, j, x, y, rfl, ⟨rfl, rfl, hx, hy, ⟨by omega, hu2, show (1 : Int) ≤ overI (R / 2) S ds i j from by omega, ob⟩, bx.1, by'.1⟩, w_retD ?_⟩
          repeat' (first | walk_at "k2" | fail)
          rw [← ec]
          exact hK
        · have em : ((r0 :: rs).map rowT).map (chD u ds) = (r0 :: rs).map fun y => PyData.tuple (.int (chU u ds y) :: [rowT y]) := by
            rw [List.map_map]
            exact List.map_congr_left fun x _ => rfl
          obtain ⟨y, hy, ey, hm⟩ := minD_row (chU u ds) (fun y => [rowT y]) rs r0
          rw [em, List.map_cons (f := fun y => PyData.tuple (.int (chU u ds y) :: [rowT y]))]
          repeat' (first | walk_at "k2" | fail)
          refine w_minD (xs := rs.map fun y => PyData.tuple (.int (chU u ds y) :: [rowT y])) (deref_of new_at) (rowT_alike (l := r0 :: rs)) (Fl.up (chT_flat (l := r0 :: rs)) (by decide)) ey ?_
          exact q2 y hy hm _
  · cases hgs


theorem ok_slack {a_Impossible : Addr} {f : Addr} {fd : FuncData} (F : Fun K "slack" "slack" s_slack f fd) (m : mg "slack" = some (.ref f)) (d_check_slack : DefOk P w K mg base "check_slack" s_check_slack ["wheel", "low", "drive"] 5 g_check_slack) (d_weakest : DefOk P w K mg base "weakest" s_weakest ["wheel", "low", "drive"] 3 g_weakest) (e_Impossible : ErrS K mg "Impossible" a_Impossible [.type "ValueError", .type "Exception", .type "BaseException", .type "object"]) :
    DefOk P w K mg base "slack" s_slack ["wheel", "low", "drive"] 6 (x_slack a_Impossible) := by
  refine def_mk F m sc_slack fun cdv A out sh H E Eh hg hr => ⟨_, (ys_cons (y_expr (y_cd (d_check_slack.up (by decide)) b_check_slack hg hr (by rfl) takesY (xa_cons (xv 0) (xa_cons (xv 1) (xa_cons (xv 2) xa_nil)))))
      (ys_cons (y_set (i := 3) sc_slack.nd rfl (by first | exact .inl rfl | exact .inr rfl) (y_cd (d_weakest.up (by decide)) b_weakest hg hr (by rfl) takesY (xa_cons (xv 0) (xa_cons (xv 1) (xa_cons (xv 2) xa_nil)))))
      (ys_cons (y_if (xt_cmp xo_isN (xv 3) xnon (nomark _)) (ys_one (y_ret xnon)) ys_nil)
      (ys_cons (y_if (xt_cmp (xo_eq hr) (xix (xv 3) xint) xint (nomark _)) (ys_one (y_raiseS PySem.F.excBase_ValueError e_Impossible rfl takesY (by rfl) xstr)) ys_nil)
      (ys_one (y_ret (xop xo_sub (xix (xv 3) xint) xint))))))), fun cs M Qh hlen hgs => ?_⟩
  unfold x_slack at hgs; split at hgs
  · rename_i R S u xs
    obtain ⟨ds, rfl, pre, q1, q2, q3⟩ := hgs
    have pre' := pre
    obtain ⟨wh, hR, hu, hu2, up⟩ := pre'
    repeat' (first | walk_at "k3" | fail)
    refine ⟨ds, rfl, ⟨wh, hu, up⟩, w_retD ?_⟩
    repeat' (first | walk_at "k3" | fail)
    refine ⟨ds, rfl, pre, fun h => w_retD ?_, fun row hr hm => w_retD ?_⟩
    · repeat' (first | walk_at "k2" | fail)
      exact q1 h _
    · have c0 := @ch_nonneg u ds row
      have hmu : MinU (R / 2) S u ds (chU u ds row) := ⟨row, hr, rfl, hm⟩
      repeat' (first | walk_at "k2" | fail)
      · rename_i h
        rw [h] at hmu
        refine w_raS ?_
        exact q2 hmu _
      · exact q3 _ hmu (by omega) _
  · cases hgs


theorem ok_brought_together {f : Addr} {fd : FuncData} (F : Fun K "brought_together" "brought_together" s_brought_together f fd) (m : mg "brought_together" = some (.ref f)) (z_max : mg "max" = none) (z_min : mg "min" = none) :
    DefOk P w K mg base "brought_together" s_brought_together ["drive", "first", "last", "by"] 1 g_brought_together := by
  refine def_mk F m sc_brought_together fun cdv A out sh H E Eh hg hr => ⟨_, (ys_cons (y_set (i := 4) sc_brought_together.nd rfl (by first | exact .inl rfl | exact .inr rfl) (xop xo_add (xix (xix (xv 0) (xv 1)) xint) (xv 3)))
      (ys_cons (y_set (i := 5) sc_brought_together.nd rfl (by first | exact .inl rfl | exact .inr rfl) (xcb (xc_max rfl) rfl z_max (by decide +kernel) (xa_cons (xop xo_sub (xix (xix (xv 0) (xv 2)) xint) (xv 3)) (xa_cons (xv 4) xa_nil))))
      (ys_cons (y_setLc (i := 6) rfl sc_brought_together.nd rfl rfl (sw_true rfl rfl rfl (by decide +kernel)) (own := [("tick", 7), ("turn", 8)]) (yi_list (xsl (xv 0) (xo_some (xv 1)) (xo_some (xop xo_add (xv 2) xint)))) (blkOk_by (N := ["drive", "first", "last", "by", "begin", "end", "row", "tick", "turn"]) (sc := defScope s_brought_together) (by decide +kernel)) (fun _ _ _ _ _ => (ygw_tup (K := K) (n := 2) rfl rfl (ygsw_cons (ygw_name (i := 7) (by decide) (pg_name sc_brought_together.nd rfl (.inl rfl))) (ygsw_cons (ygw_name (i := 8) (by decide) (pg_name sc_brought_together.nd rfl (.inl rfl))) ygsw_nil)))) (fun _ _ _ _ _ => yts_nil) (fun _ _ _ _ _ => (xtup (xa_cons (xcb (xc_min rfl) rfl z_min (by decide +kernel) (xa_cons (xcb (xc_max rfl) rfl z_max (by decide +kernel) (xa_cons (xv 7) (xa_cons (xv 4) xa_nil))) (xa_cons (xv 5) xa_nil))) (xa_cons (xv 8) xa_nil)))))
      (ys_one (y_ret (xop xo_add (xop xo_add (xsl (xv 0) xo_none (xo_some (xv 1))) (xv 6)) (xsl (xv 0) (xo_some (xop xo_add (xv 2) xint)) xo_none))))))), fun cs M Qh hlen hgs => ?_⟩
  unfold g_brought_together at hgs; split at hgs
  · rename_i xs i j c
    obtain ⟨ds, a, b, ⟨ta, na⟩, ⟨tb, nb⟩, rfl, ⟨rfl, rfl, hab, ha, hb, hl, as⟩, q⟩ := hgs
    rw [bring_cut as hab ha hb] at q
    dsimp only at q
    have ea : L2.atI (ds.map itD) (a : Int) = some (.tuple [.int ta, .int na]) := L2.atI_nat (by rw [List.getElem?_map, ha]; rfl)
    have eb : L2.atI (ds.map itD) (b : Int) = some (.tuple [.int tb, .int nb]) := L2.atI_nat (by rw [List.getElem?_map, hb]; rfl)
    have bl : b < ds.length := (List.getElem?_eq_some_iff.mp hb).1
    have el : (ds.map itD).length = ds.length := List.length_map ..
    have c1 : cutD (ds.map itD) (some (a : Int)) (some ((b : Int) + 1)) = ((ds.drop a).take (b + 1 - a)).map itD := by
      rw [show ((b : Int) + 1) = ((b + 1 : Nat) : Int) by omega, cut_two _ _ _ (by omega) (by omega), List.map_take, List.map_drop]
    have c2 : cutD (ds.map itD) none (some (a : Int)) = (ds.take a).map itD := by rw [cut_take, List.map_take]
    have c3 : cutD (ds.map itD) (some ((b : Int) + 1)) none = (ds.drop (b + 1)).map itD := by
      rw [show ((b : Int) + 1) = ((b + 1 : Nat) : Int) by omega, cut_from _ _ (by omega), List.map_drop]
    have mx : (if ta + c > tb - c then ta + c else tb - c) = max (tb - c) (ta + c) := by split <;> omega
    repeat' (first | walk_at "k2" | refine w_ixl ea ?_ | refine w_ixl eb ?_ | fail)
    refine w_slF .d ?_
    rw [c1, mx]
    repeat' (first | walk_at "k2" | refine w_iQF .new fun M4 f4 => ?_ | fail)
    refine runC_map (f := clD (ta + c) (max (tb - c) (ta + c))) (by rw [List.length_map, List.length_take, List.length_drop]; omega) ?_ ?_
    · intro x hx K hK
      obtain ⟨⟨s, n⟩, _, rfl⟩ := List.mem_map.mp hx
      have e1 : (if max (tb - c) (ta + c) < (if ta + c > s then ta + c else s) then max (tb - c) (ta + c) else (if ta + c > s then ta + c else s)) = min (max s (ta + c)) (max (tb - c) (ta + c)) := by split <;> split <;> omega
      repeat' (first | walk_at "k2" | dsimp only [itD] | fail)
      rw [e1]
      exact hK
    have em : (((ds.drop a).take (b + 1 - a)).map itD).map (clD (ta + c) (max (tb - c) (ta + c))) = (((ds.drop a).take (b + 1 - a)).map fun z => ((min (max z.1 (ta + c)) (max (tb - c) (ta + c)), z.2) : Item)).map itD := by
      rw [List.map_map, List.map_map]
      exact List.map_congr_left fun x _ => rfl
    rw [em]
    have lm : ((((ds.drop a).take (b + 1 - a)).map fun z => ((min (max z.1 (ta + c)) (max (tb - c) (ta + c)), z.2) : Item)).map itD).length ≤ 60 := by
      rw [List.length_map, List.length_map, List.length_take, List.length_drop]
      omega
    have lt : ((ds.take a).map itD).length ≤ 60 := by rw [List.length_map, List.length_take]; omega
    have ld : ((ds.drop (b + 1)).map itD).length ≤ 60 := by rw [List.length_map, List.length_drop]; omega
    generalize hm : ((ds.drop a).take (b + 1 - a)).map (fun z => ((min (max z.1 (ta + c)) (max (tb - c) (ta + c)), z.2) : Item)) = mid at *
    repeat' (first | walk_at "k2" | fail)
    refine w_slF .d ?_
    rw [c2]
    repeat' (first | walk_at "k2" | fail)
    refine w_adF .new (.app .new) (small_le4 (by omega)) ?_
    repeat' (first | walk_at "k2" | fail)
    refine w_slF .d ?_
    rw [c3]
    refine w_adF (.app .new) .new (small_le4 (by rw [List.length_append]; omega)) ?_
    rw [← List.map_append, ← List.map_append]
    repeat' (first | walk_at "k2" | fail)
    exact q _ _ new_at
  · cases hgs


theorem ok_late_drive {f : Addr} {fd : FuncData} (F : Fun K "late_drive" "late_drive" s_late_drive f fd) (m : mg "late_drive" = some (.ref f)) (d_brought_together : DefOk P w K mg base "brought_together" s_brought_together ["drive", "first", "last", "by"] 1 g_brought_together) (d_check_number_from : DefOk P w K mg base "check_number_from" s_check_number_from ["value", "least"] 3 g_check_number_from) (d_check_slack : DefOk P w K mg base "check_slack" s_check_slack ["wheel", "low", "drive"] 5 g_check_slack) (d_weakest : DefOk P w K mg base "weakest" s_weakest ["wheel", "low", "drive"] 3 g_weakest) :
    DefOk P w K mg base "late_drive" s_late_drive ["wheel", "low", "drive", "by"] 6 g_late_drive := by
  refine def_mk F m sc_late_drive fun cdv A out sh H E Eh hg hr => ⟨_, (ys_cons (y_expr (y_cd (d_check_slack.up (by decide)) b_check_slack hg hr (by rfl) takesY (xa_cons (xv 0) (xa_cons (xv 1) (xa_cons (xv 2) xa_nil)))))
      (ys_cons (y_expr (y_cd (d_check_number_from.up (by decide)) b_check_number_from hg hr (by rfl) takesY (xa_cons (xv 3) (xa_cons xint xa_nil))))
      (ys_cons (y_set (i := 4) sc_late_drive.nd rfl (by first | exact .inl rfl | exact .inr rfl) (y_cd (d_weakest.up (by decide)) b_weakest hg hr (by rfl) takesY (xa_cons (xv 0) (xa_cons (xv 1) (xa_cons (xv 2) xa_nil)))))
      (ys_cons (y_if (YW.t (xw_or (xt_cmp xo_isN (xv 4) xnon (nomark _)) (xw_or1 (xt_cmp xo_gt (xix (xv 4) xint) (xv 3) (nomark _))))) (ys_one (y_ret xnon)) ys_nil)
      (ys_cons (y_asg (xix (xv 4) xint) (yg_tup (n := 3) rfl (ygs_cons (yg_name (i := 5) sc_late_drive.nd rfl (by first | exact .inl rfl | exact .inr rfl)) (ygs_cons (yg_name (i := 6) sc_late_drive.nd rfl (by first | exact .inl rfl | exact .inr rfl)) (ygs_cons (yg_name (i := 7) sc_late_drive.nd rfl (by first | exact .inl rfl | exact .inr rfl)) ygs_nil)))))
      (ys_one (y_ret (y_cd (d_brought_together.up (by decide)) b_brought_together hg hr (by rfl) takesY (xa_cons (xv 2) (xa_cons (xv 5) (xa_cons (xv 6) (xa_cons (xix (xv 4) xint) xa_nil)))))))))))), fun cs M Qh hlen hgs => ?_⟩
  unfold g_late_drive at hgs; split at hgs
  · rename_i R S u xs b
    obtain ⟨ds, rfl, ⟨pre, hb⟩, q1, q2, q3⟩ := hgs
    obtain ⟨wh, hR, hu, hu2, up⟩ := id pre
    repeat' (first | walk_at "k2" | fail)
    refine ⟨ds, rfl, ⟨wh, hu, up⟩, w_retD ?_⟩
    repeat' (first | walk_at "k2" | dsimp only [g_check_number_from] | fail)
    · exact hb
    refine ⟨ds, rfl, pre, fun h => w_retD ?_, fun row hr hm => w_retD ?_⟩
    · repeat' (first | walk_at "k2" | fail)
      exact q1 h _
    · obtain ⟨i, j, rfl, hij, hj, ho⟩ := rows_mem.mp hr
      obtain ⟨x, hx⟩ : ∃ x, ds[i]? = some x := ⟨_, List.getElem?_eq_getElem (by omega)⟩
      obtain ⟨y, hy⟩ : ∃ y, ds[j]? = some y := ⟨_, List.getElem?_eq_getElem hj⟩
      have hmu : MinU (R / 2) S u ds (chU u ds ((i : Int), (j : Int), overI (R / 2) S ds i j)) := ⟨_, hr, rfl, hm⟩
      have ok := bring_ok hu up.2.1 hij hx hy ho rfl
      generalize chU u ds ((i : Int), (j : Int), overI (R / 2) S ds i j) = m at *
      repeat' (first | walk_at "k2" | dsimp only [rowT] | fail)
      · rename_i h
        exact q2 m hmu (by omega) _
      · rename_i h
        refine ⟨ds, i, j, x, y, rfl, ⟨rfl, rfl, hij, hx, hy, up.1, up.2.1⟩, w_retL ?_⟩
        exact q3 m _ hmu (by omega) ok _ _ new_at
  · cases hgs


theorem ok_is_late {f : Addr} {fd : FuncData} (F : Fun K "is_late" "is_late" s_is_late f fd) (m : mg "is_late" = some (.ref f)) (d_is_number : DefOk P w K mg base "is_number" s_is_number ["value"] 1 g_is_number) (d_is_number_from : DefOk P w K mg base "is_number_from" s_is_number_from ["value", "least"] 2 g_is_number_from) (d_is_pair : DefOk P w K mg base "is_pair" s_is_pair ["value"] 1 g_is_pair) (z_abs : mg "abs" = none) (z_isinstance : mg "isinstance" = none) (z_len : mg "len" = none) (z_list : mg "list" = none) (z_zip : mg "zip" = none) :
    DefOk P w K mg base "is_late" s_is_late ["drive", "by", "value"] 3 g_is_late := by
  refine def_mk F m sc_is_late fun cdv A out sh H E Eh hg hr => ⟨_, (ys_cons (y_if (YW.t (xw_or (xt_not (xt_val (y_isi (T := "list") kit_list rfl z_isinstance rfl z_list (by decide +kernel) (xv 2)))) (xw_or1 (xt_cmp (xo_ne hr) (xcb xc_len rfl z_len (by decide +kernel) (xa_cons (xv 2) xa_nil)) (xcb xc_len rfl z_len (by decide +kernel) (xa_cons (xv 0) xa_nil)) (nomark _))))) (ys_one (y_ret xbl)) ys_nil)
      (ys_cons (y_set (i := 3) sc_is_late.nd rfl (by first | exact .inl rfl | exact .inr rfl) xint)
      (ys_cons (y_for passesY rfl (yi_zip rfl z_zip (xa_cons (xv 0) (xa_cons (xv 2) xa_nil))) (yg_tup (n := 2) rfl (ygs_cons (yg_tup (n := 2) rfl (ygs_cons (yg_name (i := 4) sc_is_late.nd rfl (by first | exact .inl rfl | exact .inr rfl)) (ygs_cons (yg_name (i := 5) sc_is_late.nd rfl (by first | exact .inl rfl | exact .inr rfl)) ygs_nil))) (ygs_cons (yg_name (i := 6) sc_is_late.nd rfl (by first | exact .inl rfl | exact .inr rfl)) ygs_nil))) (ys_cons (y_if (YW.t (xw_or (xt_not (xt_val (y_cd (d_is_pair.up (by decide)) b_is_pair hg hr (by rfl) takesY (xa_cons (xv 6) xa_nil)))) (xw_or (xt_not (xt_val (y_cd (d_is_number_from.up (by decide)) b_is_number_from hg hr (by rfl) takesY (xa_cons (xix (xv 6) xint) (xa_cons (xv 3) xa_nil))))) (xw_or1 (xt_not (xt_val (y_cd (d_is_number.up (by decide)) b_is_number hg hr (by rfl) takesY (xa_cons (xix (xv 6) xint) xa_nil)))))))) (ys_one (y_ret xbl)) ys_nil)
      (ys_cons (y_if (YW.t (xw_or (xt_cmp (xo_ne hr) (xix (xv 6) xint) (xv 5) (nomark _)) (xw_or1 (xt_cmp xo_gt (xcb xc_abs rfl z_abs (by decide +kernel) (xa_cons (xop xo_sub (xix (xv 6) xint) (xv 4)) xa_nil)) (xv 1) (nomark _))))) (ys_one (y_ret xbl)) ys_nil)
      (ys_one (y_set (i := 3) sc_is_late.nd rfl (by first | exact .inl rfl | exact .inr rfl) (xix (xv 6) xint))))))
      (ys_one (y_ret xbl))))), fun cs M Qh hlen hgs => ?_⟩
  unfold g_is_late at hgs; split at hgs
  · rename_i xs b ys
    obtain ⟨ds, es, rfl, rfl, ⟨lc, hl⟩, q⟩ := hgs
    have el := late_len lc
    have l1 : (ds.map itD).length = ds.length := List.length_map ..
    have l2 : (es.map itD).length = es.length := List.length_map ..
    have ll : decide (((es.map itD).length : Int) = ((ds.map itD).length : Int)) = true := decide_eq_true (by omega)
    repeat' (first | dsimp only [isListD] | walk_at "k4" | fail)
    refine w_cut (fun ρ2 M2 => ∃ c3 c4 c5 c6, ρ2 = [some (.d (.list (ds.map itD))), some (.d (.int b)), some (.d (.list (es.map itD))), c3, c4, c5, c6]) ?_ ?_
    · intro N hN
      repeat' (first | dsimp only [isListD] | walk_at "k2" | fail)
      all_goals first | exact hN _ _ ⟨_, _, _, _, rfl⟩ | skip
      all_goals first | (rename_i h; cases h; done) | (exfalso; rename_i h; rw [ll] at h; cases h; done) | (exfalso; omega) | skip
    · rintro ρ2 M2 ⟨c3, c4, c5, c6, rfl⟩
      repeat' (first | walk_at "k2" | fail)
      refine runL_inv (fun i ρ M' => ∃ (l : Int) (c4 c5 c6 : Option Cell), ρ = [some (.d (.list (ds.map itD))), some (.d (.int b)), some (.d (.list (es.map itD))), some (.d (.int l)), c4, c5, c6] ∧ LateC b (ds.drop i) (es.drop i) l)
        ⟨0, _, _, _, rfl, lc⟩ ?_ ?_
      · rintro i x ρ M' N hx ⟨l, c4, c5, c6, rfl, lc'⟩ hN
        obtain ⟨p1, p2, hp1, hp2, rfl⟩ := paired_get _ _ _ _ hx
        obtain ⟨t, n, hd, hi, rfl, ed⟩ := items_get hp1
        obtain ⟨s, m, hd2, hi2, rfl, ed2⟩ := items_get hp2
        rw [ed, ed2] at lc'
        obtain ⟨⟨h1, h2, h3, h4⟩, lc2⟩ := late_cons lc'
        dsimp only at h1 h2 h3 h4 lc2
        subst h1
        repeat' (first | walk_at "k2" | dsimp only [itD, g_is_pair, g_is_number_from, g_is_number, pairD, geD] | fail)
        all_goals first | exact hN _ _ ⟨s, _, _, _, rfl, lc2⟩ | skip
        all_goals first | (exfalso; rename_i h; split at h <;> omega) | (exfalso; omega) | (exfalso; rename_i h; simp at h; omega) | (exfalso; rename_i h; cases h; done) | skip
      · rintro ρ M' ⟨l, c4, c5, c6, rfl, _⟩
        repeat' (first | walk_at "k2" | fail)
        exact q _
  · cases hgs


theorem ok_shows_late {f : Addr} {fd : FuncData} (F : Fun K "shows_late" "shows_late" s_shows_late f fd) (m : mg "shows_late" = some (.ref f)) (d_check_number_from : DefOk P w K mg base "check_number_from" s_check_number_from ["value", "least"] 3 g_check_number_from) (d_check_slack : DefOk P w K mg base "check_slack" s_check_slack ["wheel", "low", "drive"] 5 g_check_slack) (d_is_kept : DefOk P w K mg base "is_kept" s_is_kept ["wheel", "pull", "place", "drive"] 8 g_is_kept) (d_is_late : DefOk P w K mg base "is_late" s_is_late ["drive", "by", "value"] 3 g_is_late) (d_summed : DefOk P w K mg base "summed" s_summed ["items"] 1 g_summed) :
    DefOk P w K mg base "shows_late" s_shows_late ["wheel", "low", "drive", "by", "value"] 9 g_shows_late := by
  refine def_mk F m sc_shows_late fun cdv A out sh H E Eh hg hr => ⟨_, (ys_cons (y_expr (y_cd (d_check_slack.up (by decide)) b_check_slack hg hr (by rfl) takesY (xa_cons (xv 0) (xa_cons (xv 1) (xa_cons (xv 2) xa_nil)))))
      (ys_cons (y_expr (y_cd (d_check_number_from.up (by decide)) b_check_number_from hg hr (by rfl) takesY (xa_cons (xv 3) (xa_cons xint xa_nil))))
      (ys_one (y_ret (xand (y_cd (d_is_late.up (by decide)) b_is_late hg hr (by rfl) takesY (xa_cons (xv 2) (xa_cons (xv 3) (xa_cons (xv 4) xa_nil)))) (xone (xnot (y_cd (d_is_kept.up (by decide)) b_is_kept hg hr (by rfl) takesY (xa_cons (xv 0) (xa_cons (xv 1) (xa_cons xint (xa_cons (y_cd (d_summed.up (by decide)) b_summed hg hr (by rfl) takesY (xa_cons (xv 4) xa_nil)) xa_nil)))))))))))), fun cs M Qh hlen hgs => ?_⟩
  unfold g_shows_late at hgs; split at hgs
  · rename_i R S u xs b ys
    obtain ⟨ds, es, rfl, rfl, ⟨pre, hb, lc, sx, wk⟩, q⟩ := hgs
    obtain ⟨wh, hR, hu, hu2, up⟩ := id pre
    obtain ⟨w1, w2, w3⟩ := id wh
    obtain ⟨k1, k2, k3⟩ := id wk
    repeat' (first | walk_at "k2" | fail)
    refine ⟨ds, rfl, ⟨wh, hu, up⟩, w_retD ?_⟩
    repeat' (first | walk_at "k2" | dsimp only [g_check_number_from] | fail)
    · exact hb
    refine ⟨ds, es, rfl, rfl, ⟨lc, up.1⟩, w_retD ?_⟩
    repeat' (first | walk_at "k2" | fail)
    refine ⟨es, rfl, by omega, fun rs hs => w_retL ?_⟩
    have p1 : ∀ x ∈ es, 1 ≤ x.2 := fun x hx => (k3 x hx).2.1
    have er := merge_sum k2 (fun x hx => ⟨(k3 x hx).1.1, p1 x hx⟩) hs
    obtain ⟨m1, m2, m3, m4, m5⟩ := merge_ok (l := 0) k2 (fun x hx => ⟨(k3 x hx).1.1, p1 x hx⟩)
    rw [← er] at m1 m2 m3 m5
    have sb : (es.map (·.2)).sum ≤ 60 * 10 ^ 31 := by
      have h1 := sum_le (B := 10 ^ 31) (by decide) (l := es.map (·.2)) fun y hy => by
        obtain ⟨x, hx, rfl⟩ := List.mem_map.mp hy
        exact (k3 x hx).2.2
      rw [List.length_map] at h1
      omega
    have pl : PlOk R S u 0 rs := by
      refine ⟨wh, by omega, hu, ⟨by omega, by omega⟩, ⟨by omega, by omega⟩, by omega, m3, fun x hx => ?_⟩
      obtain ⟨a1, ⟨y, hy, a2⟩, a3⟩ := m5 x hx
      have := k3 y hy
      exact ⟨⟨by omega, by omega⟩, by omega, by omega⟩
    have kf : (slI 0 0 (lostsI R S u rs 0)).isEmpty = false := by
      rw [Bool.eq_false_iff]
      exact fun h => (kept_iff w1 w2 hu p1 m3 (fun x hx => (m5 x hx).1) m2).mp h sx
    repeat' (first | walk_at "k2" | fail)
    refine ⟨rs, rfl, pl, w_retD ?_⟩
    rw [kf]
    repeat' (first | walk_at "k2" | fail)
    exact q _
  · cases hgs


theorem ok__law_tank {f : Addr} {fd : FuncData} (F : Fun K "_law_tank" "_law_tank" s__law_tank f fd) (m : mg "_law_tank" = some (.ref f)) (z_abs : mg "abs" = none) (z_int : mg "int" = none) (z_len : mg "len" = none) (z_max : mg "max" = none) :
    DefOk P w K mg base "_law_tank" s__law_tank ["script", "at"] 1 g__law_tank := by
  refine def_mk F m sc__law_tank fun cdv A out sh H E Eh hg hr => ⟨_, (ys_cons (y_set (i := 2) sc__law_tank.nd rfl (by first | exact .inl rfl | exact .inr rfl) (xif (xt_cmp xo_lt (xv 1) (xcb xc_len rfl z_len (by decide +kernel) (xa_cons (xv 0) xa_nil)) (nomark _)) (xix (xv 0) (xv 1)) xint))
      (ys_one (y_ret (xlst (xa_cons (xcb (xc_max rfl) rfl z_max (by decide +kernel) (xa_cons xint (xa_cons (xop xo_sub (xcb xc_abs rfl z_abs (by decide +kernel) (xa_cons (xv 2) xa_nil)) (xop xo_pow xint xint)) xa_nil))) (xa_cons (xop xo_add (xop xo_mod (xct xc_int rfl z_int (by decide +kernel) (xa_cons (xv 2) xa_nil)) xint) (xop xo_mul xint (xop xo_add (xv 1) xint))) (xa_cons xint xa_nil))))))), fun cs M Qh hlen hgs => ?_⟩
  unfold g__law_tank g__law_source at hgs; split at hgs
  · rename_i ns at_
    obtain ⟨⟨h1, h2⟩, q⟩ := hgs
    have key : ∀ (cell left : Int) M, 0 ≤ left → Qh (.r M.length) (M ++ [.live [.int left, .int (cell % 1000000000000000003 + 104729 * (at_ + 1)), .int 0]]) := fun cell left M hl => by
      refine q _ _ ⟨hl, ?_, ?_, by omega, by omega⟩ _ _ List.getElem?_concat_length <;> omega
    have ix : at_ < (ns.length : Int) → ∃ n, atI ns at_ = some n := fun h => let ⟨x, e, _⟩ := atI_nat h1 h; ⟨x, e⟩
    repeat' (first | walk_at "k1" | with_reducible refine And.intro ?_ ?_)
    · obtain ⟨n, e⟩ := ix (by assumption)
      refine w_ixs e ?_
      repeat' (first | walk_at "k1" | with_reducible refine And.intro ?_ ?_)
      all_goals first | exact key _ _ _ (by split at * <;> omega) | walk_at "sz"
    all_goals first | exact key _ _ _ (by omega) | walk_at "sz"
  · cases hgs


theorem ok__law_tap {f : Addr} {fd : FuncData} (F : Fun K "_law_tap" "_law_tap" s__law_tap f fd) (m : mg "_law_tap" = some (.ref f)) (z_int : mg "int" = none) :
    DefOk P w K mg base "_law_tap" s__law_tap ["tank", "many"] 1 g__law_tap := by
  refine def_mk F m sc__law_tap fun cdv A out sh H E Eh hg hr => ⟨_, (ys_cons (y_if (xt_cmp xo_gt (xix (xv 0) xint) xint (nomark _)) (ys_cons (y_set (i := 2) sc__law_tap.nd rfl (by first | exact .inl rfl | exact .inr rfl) (xop xo_mod (xct xc_int rfl z_int (by decide +kernel) (xa_cons (xix (xv 0) xint) xa_nil)) (xv 1)))
      (ys_cons (y_asg (xop xo_fdiv (xix (xv 0) xint) (xv 1)) (yg_ix (xv 0) xint))
      (ys_one (y_ret (xv 2))))) ys_nil)
      (ys_cons (y_asg (xop xo_add (xix (xv 0) xint) xint) (yg_ix (xv 0) xint))
      (ys_cons (y_set (i := 3) sc__law_tap.nd rfl (by first | exact .inl rfl | exact .inr rfl) (xop xo_mod (xct xc_int rfl z_int (by decide +kernel) (xa_cons (xop xo_pow (xop xo_add (xix (xv 0) xint) (xop xo_mul xint (xix (xv 0) xint))) xint) xa_nil)) xint))
      (ys_cons (y_set (i := 3) sc__law_tap.nd rfl (by first | exact .inl rfl | exact .inr rfl) (xop xo_mod (xct xc_int rfl z_int (by decide +kernel) (xa_cons (xop xo_pow (xop xo_add (xv 3) (xop xo_mul xint (xix (xv 0) xint))) xint) xa_nil)) (xop xo_add (xop xo_pow xint xint) xint)))
      (ys_one (y_ret (xop xo_mod (xct xc_int rfl z_int (by decide +kernel) (xa_cons (xop xo_fdiv (xv 3) xint) xa_nil)) (xv 1)))))))), fun cs M Qh hlen hgs => ?_⟩
  unfold g__law_tap g__law_draw at hgs; split at hgs
  · rename_i many a b c
    obtain ⟨⟨⟨h1, h2, h3, h4, h5⟩, h6, h7⟩, q⟩ := hgs
    repeat' (first | walk_at "k1" | with_reducible refine And.intro ?_ ?_)
    all_goals first | walk_at "sz" | skip
    · refine q _ _ _ (Int.emod_nonneg _ (by omega)) (Int.emod_lt_of_pos _ h6) (Int.ediv_nonneg h1 (by omega)) (by omega) (by omega) _
    · exact q _ _ _ (Int.emod_nonneg _ (by omega)) (Int.emod_lt_of_pos _ h6) h1 (by omega) (by omega) _
  · cases hgs


theorem ok__law_disc {f : Addr} {fd : FuncData} (F : Fun K "_law_disc" "_law_disc" s__law_disc f fd) (m : mg "_law_disc" = some (.ref f)) (d__law_tap : DefOk P w K mg base "_law_tap" s__law_tap ["tank", "many"] 1 g__law_tap) :
    DefOk P w K mg base "_law_disc" s__law_disc ["tank", "top"] 2 g__law_disc := by
  refine def_mk F m sc__law_disc fun cdv A out sh H E Eh hg hr => ⟨_, (ys_cons (y_set (i := 2) sc__law_disc.nd rfl (by first | exact .inl rfl | exact .inr rfl) (xop xo_add xint (y_cdR (d__law_tap.up (by decide)) b__law_tap hg hr (by rfl) takesY (xa_cons (xv 0) (xa_cons (xv 1) xa_nil)))))
      (ys_cons (y_set (i := 3) sc__law_disc.nd rfl (by first | exact .inl rfl | exact .inr rfl) (xop xo_fdiv (xop xo_sub (xv 2) xint) xint))
      (ys_one (y_ret (xtup (xa_cons (xv 2) (xa_cons (xix (xlst (xa_cons (xop xo_add xint (y_cdR (d__law_tap.up (by decide)) b__law_tap hg hr (by rfl) takesY (xa_cons (xv 0) (xa_cons (xv 3) xa_nil)))) (xa_cons (xv 3) (xa_cons (xop xo_add xint (xop xo_fdiv (xv 3) xint)) xa_nil)))) (y_cdR (d__law_tap.up (by decide)) b__law_tap hg hr (by rfl) takesY (xa_cons (xv 0) (xa_cons xint xa_nil)))) xa_nil))))))), fun cs M Qh hlen hgs => ?_⟩
  unfold g__law_disc at hgs; split at hgs
  · rename_i top a b c
    obtain ⟨⟨⟨⟨h1, h2, h3, h4, h5⟩, h5b⟩, h6, h7⟩, q⟩ := hgs
    repeat' walk_at "k2"
    all_goals first | walk_at "sz" | skip
    rename_i d1 a1 c1 _ _ _ _ _ d2 a2 c2 _ _ _ _ _ d3 a3 c3 _ _ _ _ _
    refine w_ixP (BtI 1 ((3 + d1 - 1) / 2)) rfl (by assumption) (by simp only [List.length_cons, List.length_nil]; omega) (by walk_at "few") ?_
    rintro x ⟨m', rfl, b3, b4⟩
    repeat' walk_at "k2"
    exact q _ _ _ _ ⟨by omega, by omega, by omega⟩ (by omega) (by assumption) (by omega) (by omega) _
  · cases hgs


theorem ok__law_least {f : Addr} {fd : FuncData} (F : Fun K "_law_least" "_law_least" s__law_least f fd) (m : mg "_law_least" = some (.ref f)) (d__law_tap : DefOk P w K mg base "_law_tap" s__law_tap ["tank", "many"] 1 g__law_tap) (z_max : mg "max" = none) :
    DefOk P w K mg base "_law_least" s__law_least ["tank", "disc"] 2 g__law_least := by
  refine def_mk F m sc__law_least fun cdv A out sh H E Eh hg hr => ⟨_, (ys_cons (y_set (i := 2) sc__law_least.nd rfl (by first | exact .inl rfl | exact .inr rfl) (xop xo_fdiv (xix (xv 1) xint) xint))
      (ys_cons (y_set (i := 3) sc__law_least.nd rfl (by first | exact .inl rfl | exact .inr rfl) (xlst (xa_cons (xv 2) (xa_cons (xop xo_sub (xv 2) (xix (xv 1) xint)) (xa_cons (xop xo_sub (xv 2) (y_cdR (d__law_tap.up (by decide)) b__law_tap hg hr (by rfl) takesY (xa_cons (xv 0) (xa_cons (xix (xv 1) xint) xa_nil)))) (xa_cons (xop xo_add xint (y_cdR (d__law_tap.up (by decide)) b__law_tap hg hr (by rfl) takesY (xa_cons (xv 0) (xa_cons (xv 2) xa_nil)))) xa_nil))))))
      (ys_cons (y_set (i := 4) sc__law_least.nd rfl (by first | exact .inl rfl | exact .inr rfl) (xop xo_add (xv 3) (xlst (xa_cons (xop xo_add (xix (xv 3) xint) xint) (xa_cons xint (xa_cons (xop xo_mul xint (xv 2)) (xa_cons (xix (xv 1) xint) xa_nil)))))))
      (ys_one (y_ret (xcb (xc_max rfl) rfl z_max (by decide +kernel) (xa_cons xint (xa_cons (xop xo_add (xix (xv 4) (y_cdR (d__law_tap.up (by decide)) b__law_tap hg hr (by rfl) takesY (xa_cons (xv 0) (xa_cons xint xa_nil)))) (xix (xlst (xa_cons xint (xa_cons xint (xa_cons xint (xa_cons (xun xo_neg xint) xa_nil))))) (y_cdR (d__law_tap.up (by decide)) b__law_tap hg hr (by rfl) takesY (xa_cons (xv 0) (xa_cons xint xa_nil))))) xa_nil)))))))), fun cs M Qh hlen hgs => ?_⟩
  unfold g__law_least at hgs; split at hgs
  · rename_i R S a b c
    obtain ⟨⟨⟨⟨s1, s2, s3, s4, s5⟩, c30⟩, wh, hR⟩, q⟩ := hgs
    obtain ⟨w1, w2, w3⟩ := id wh
    obtain ⟨M0, hM0⟩ : ∃ M0 : Mem, M0 = [.live [.int a, .int b, .int c]] := ⟨_, rfl⟩
    have hm : At 0 M0 b a c := by rw [hM0]; rfl
    rw [← hM0]
    clear hM0
    generalize hF : R / 2 = F
    repeat' (first | walk_at "k3" | rw [hF] | fail)
    · exact divR (by decide) (by decide)
    refine w_tapG (many := S) rfl hm ⟨⟨s1, s2, s3, s4, s5⟩, by omega, by omega⟩ ?_
    intro d1 a1 c1 M1 d10 d11 a10 c10 c11 hm1 kp1
    repeat' (first | walk_at "k3" | rw [hF] | fail)
    refine w_tapG (many := F) rfl hm1 ⟨⟨a10, s2, s3, by omega, by omega⟩, by omega, by omega⟩ ?_
    intro d2 a2 c2 M2 d20 d21 a20 c20 c21 hm2 kp2
    repeat' (first | walk_at "k3" | refine w_ixr (deref_of new_at) (L2.atI_nat (j := 1) rfl) ?_ | fail)
    · exact Sm.mul ⟨by omega, by omega⟩ ⟨by omega, by omega⟩
    refine w_adF (.r (.inl (at_app new_at))) .new (small_le4 (by simp)) ?_
    repeat' walk_at "k3"
    refine w_tapG rfl hm2.app.app.app ⟨⟨a20, s2, s3, by omega, by omega⟩, by decide, by decide⟩ ?_
    intro d3 a3 c3 M3 d30 d31 a30 c30 c31 hm3 kp3
    refine w_ixP (BtI (-R) (2 * R)) (deref_of (newK hm2.app.app kp3)) d30 (by simp only [List.length_append, List.length_cons, List.length_nil]; omega) (show ∀ x ∈ [PyData.int F, .int (F - S), .int (F - d1), .int (1 + d2), .int (F - S + 1), .int 1, .int (2 * F), .int S], BtI (-R) (2 * R) x by walk_at "few") ?_
    rintro x ⟨m, rfl, m0, m1⟩
    repeat' walk_at "k3"
    refine w_tapG rfl hm3.app ⟨⟨a30, s2, s3, by omega, by omega⟩, by decide, by decide⟩ ?_
    intro d4 a4 c4 M4 d40 d41 a40 c40 c41 hm4 kp4
    refine w_ixP (BtI (-1) 1) (deref_of (newK hm3 kp4)) d40 (by simp only [List.length_cons, List.length_nil]; omega) (by walk_at "few") ?_
    rintro x ⟨y, rfl, y0, y1⟩
    repeat' (first | walk_at "k2" | fail)
    obtain ⟨M9, rfl⟩ := at0 hm4
    exact q _ _ _ (by split <;> omega) (by split <;> omega) a40 (by omega) (by omega) _
  · cases hgs


theorem ok__law_ahead {f : Addr} {fd : FuncData} (F : Fun K "_law_ahead" "_law_ahead" s__law_ahead f fd) (m : mg "_law_ahead" = some (.ref f)) (z_min : mg "min" = none) (z_range : mg "range" = none) :
    DefOk P w K mg base "_law_ahead" s__law_ahead ["disc", "least", "here", "count"] 1 g_aheadN := by
  refine def_mk F m sc__law_ahead fun cdv A out sh H E Eh hg hr => ⟨_, (ys_cons (y_par3 (i := 4) (j := 5) (l := 6) rfl sc__law_ahead.nd rfl rfl rfl (by decide) (by decide) (by decide) rfl rfl rfl (xa_cons xint (xa_cons xint (xa_cons (xlst xa_nil) xa_nil))))
      (ys_cons (y_for passesY rfl (yi_rng1 rfl z_range (xa_cons (xv 3) xa_nil)) (yg_name (i := 7) sc__law_ahead.nd rfl (by first | exact .inl rfl | exact .inr rfl)) (ys_cons (y_set (i := 8) sc__law_ahead.nd rfl (by first | exact .inl rfl | exact .inr rfl) (xop xo_sub (xop xo_add (xv 4) (xix (xv 0) xint)) (xop xo_fdiv (xix (xv 0) xint) xint)))
      (ys_cons (y_if (xt_cmp xo_lt (xv 2) (xv 8) (nomark _)) (ys_cons (y_set (i := 9) sc__law_ahead.nd rfl (by first | exact .inl rfl | exact .inr rfl) (xop xo_sub xint (xop xo_fdiv (xop xo_sub (xv 2) (xv 8)) (xv 1))))
      (ys_one (y_par (i := 2) (j := 5) rfl sc__law_ahead.nd rfl rfl (by decide) rfl rfl (xa_cons (xcb (xc_min rfl) rfl z_min (by decide +kernel) (xa_cons (xv 4) (xa_cons (xop xo_add (xv 2) (xop xo_mul (xv 9) (xv 1))) xa_nil))) (xa_cons (xop xo_add (xv 5) (xv 9)) xa_nil))))) ys_nil)
      (ys_cons (y_set (i := 4) sc__law_ahead.nd rfl (by first | exact .inl rfl | exact .inr rfl) (xop xo_add (xv 4) (xix (xv 0) xint)))
      (ys_one (y_app (xv 6) (xtup (xa_cons (xv 5) (xa_cons (xv 2) xa_nil)))))))))
      (ys_one (y_ret (xv 6))))), fun cs M Qh hlen hgs => ?_⟩
  unfold g_aheadN at hgs; split at hgs
  · rename_i R S u n
    obtain ⟨⟨⟨wh, hR⟩, ⟨hu, hu2⟩, hn, hn2⟩, q⟩ := hgs
    obtain ⟨w1, w2, w3⟩ := id wh
    repeat' (first | walk_at "k2" | fail)
    refine runL_inv (fun i ρ M' => ∃ (L : List Item) (now h : Int) (c7 c8 c9 : Option Cell), ρ = [some (.d (.tuple [.int R, .int S])), some (.d (.int u)), some (.d (.int h)), some (.d (.int n)), some (.d (.int (i * S))), some (.d (.int now)), some (.r 0), c7, c8, c9] ∧ M'[0]? = some (.live (L.map itD)) ∧ L.length = i ∧ (∀ x ∈ L, 0 ≤ x.1 ∧ x.1 ≤ now) ∧ (L.Pairwise fun x y => x.1 ≤ y.1) ∧ (0 ≤ now ∧ now ≤ i * R) ∧ (i * S - R / 2 ≤ h ∧ h ≤ i * S) ∧ NsP (R / 2) S u (L.map (·.1)) ∧ (∀ (k : Nat) (z : Item), L[k]? = some z → h ≤ k * S + u * (now - z.1)) ∧ ∀ x ∈ L, -(10 ^ 40) ≤ x.2 ∧ x.2 ≤ 10 ^ 40)
      ⟨[], 0, 0, _, _, _, by rw [show ((0 : Nat) : Int) * S = 0 from Int.zero_mul S]; rfl, rfl, rfl, fun x hx => (by cases hx), .nil, by simp, by rw [show ((0 : Nat) : Int) * S = 0 from Int.zero_mul S]; omega, fun i j x y _ hx => (by cases hx), fun k z hz => (by cases hz), fun x hx => (by cases hx)⟩ ?_ ?_
    · rintro i x ρ M' N hx ⟨L, now, h, c7, c8, c9, rfl, hm, hl, l1, l2, ⟨n1, n2⟩, ⟨h1, h2⟩, ns, nh, l3⟩ hN
      obtain ⟨hi, rfl⟩ := ints_get hx
      have hi60 : i < 60 := by omega
      have eS : ((i + 1 : Nat) : Int) * S = i * S + S := by rw [Int.natCast_add, Int.add_mul]; omega
      have eR : ((i + 1 : Nat) : Int) * R = i * R + R := by rw [Int.natCast_add, Int.add_mul]; omega
      have bS : 0 ≤ (i : Int) * S ∧ (i : Int) * S ≤ 60 * S := ⟨Int.mul_nonneg (by omega) (by omega), Int.mul_le_mul_of_nonneg_right (by omega) (by omega)⟩
      have sl : (L.map itD).length < sizeLine := by rw [List.length_map]; exact small_lt4 (by omega)
      generalize hf : (i : Int) * S = f at *
      generalize hF : R / 2 = F at *
      have hq : h < f + S - F → ∀ t, 0 - (h - (f + S - F)) / u = t → 1 ≤ t ∧ t ≤ S ∧ f + S - F ≤ h + t * u := fun hlt t ht => by
        have q1 : (h - (f + S - F)) / u < 0 := Int.ediv_neg_of_neg_of_pos (by omega) (by omega)
        have q2 : h - (f + S - F) ≤ (h - (f + S - F)) / u := Int.le_ediv_of_mul_le (by omega) (by
          have := Int.mul_le_mul_of_nonneg_left (show 1 ≤ u by omega) (show 0 ≤ (f + S - F) - h by omega)
          rw [Int.mul_one] at this
          have e : (h - (f + S - F)) * u = -(((f + S - F) - h) * u) := by rw [← Int.neg_mul]; congr 1; omega
          omega)
        have q3 : ((h - (f + S - F)) / u) * u ≤ h - (f + S - F) := Int.ediv_mul_le _ (by omega)
        have q4 : t * u = -(((h - (f + S - F)) / u) * u) := by rw [← ht, Int.sub_mul, Int.zero_mul]; omega
        omega
      have asc : ∀ {m : Int}, now ≤ m → (∀ x ∈ L ++ [(m, 0)], 0 ≤ x.1 ∧ x.1 ≤ m) ∧ ∀ g : Int, (L ++ [(m, g)]).Pairwise fun (x y : Item) => x.1 ≤ y.1 := fun {m} hm' => ⟨fun x hx => by
        rcases List.mem_append.mp hx with hx | hx
        · have := l1 x hx
          omega
        · cases List.mem_singleton.mp hx
          dsimp only
          omega, fun g => List.pairwise_append.mpr ⟨l2, List.pairwise_singleton _ _, fun x hx y hy => by
          cases List.mem_singleton.mp hy
          have := l1 x hx
          show x.1 ≤ m
          omega⟩⟩
      have fin : ∀ (m g : Int), now ≤ m → m ≤ now + S → f + S - F ≤ g → g ≤ f → ∃ L2 : List Item, L2 = L ++ [(m, g)] ∧ L2.length = i + 1 ∧ (∀ x ∈ L2, 0 ≤ x.1 ∧ x.1 ≤ m) ∧ (L2.Pairwise fun x y => x.1 ≤ y.1) ∧ (0 ≤ m ∧ m ≤ (i : Int) * R + R) ∧ (f + S - F ≤ g ∧ g ≤ f + S) ∧ ∀ x ∈ L2, -(10 ^ 40) ≤ x.2 ∧ x.2 ≤ 10 ^ 40 := fun m g a1 a2 a3 a4 => by
        refine ⟨_, rfl, by rw [List.length_append, hl]; rfl, fun x hx => ?_, (asc a1).2 g, by omega, ⟨a3, by omega⟩, fun x hx => ?_⟩
        · rcases List.mem_append.mp hx with hx | hx
          · have := l1 x hx
            omega
          · cases List.mem_singleton.mp hx
            dsimp only
            omega
        · rcases List.mem_append.mp hx with hx | hx
          · exact l3 x hx
          · cases List.mem_singleton.mp hx
            dsimp only
            omega
      have go : ∀ (m g : Int) (c7 c8 c9 : Option Cell) (M2 : Mem), now ≤ m → m ≤ now + S → f + S - F ≤ g → g ≤ f → (∀ (k : Nat) (z : Item), L[k]? = some z → g ≤ k * S + u * (m - z.1)) → M2[0]? = some (.live ((L ++ [(m, g)]).map itD)) → N [some (.d (.tuple [.int R, .int S])), some (.d (.int u)), some (.d (.int g)), some (.d (.int n)), some (.d (.int (f + S))), some (.d (.int m)), some (.r 0), c7, c8, c9] M2 := fun m g c7 c8 c9 M2 a1 a2 a3 a4 a5 hm2 => by
        obtain ⟨L2, e2, r1, r2, r3, r4, r5, r6⟩ := fin m g a1 a2 a3 a4
        exact hN _ _ ⟨L2, m, g, c7, c8, c9, by rw [eS], by rw [e2]; exact hm2, r1, r2, r3, by rw [eR]; exact r4, by rw [eS]; exact r5, by rw [e2]; exact ns_snoc ns hl (by rw [Int.add_mul, Int.one_mul, hf]; omega) a5, by rw [e2]; exact nh_snoc hl (by rw [hf]; omega) a5, r6⟩
      repeat' (first | with_reducible refine w_isl hm ?_ | walk_at "k2" | rw [hF] | refine w_apQ rfl hm sl ?_ | fail)
      · exact divR (by decide) (by decide)
      · exact divR (by omega) (by omega)
      · rename_i hc
        rw [hF] at hc
        obtain ⟨t1, t2, t3⟩ := hq hc _ rfl
        exact Sm.mul ⟨by omega, by omega⟩ ⟨by omega, by omega⟩
      · rename_i hc
        rw [hF] at hc
        obtain ⟨t1, t2, t3⟩ := hq hc _ rfl
        refine go _ _ _ _ _ _ (by omega) (by omega) (by split <;> omega) (by split <;> omega) (fun k z hz => ?_) ?_
        · have n0 := nh k z hz
          have e := Int.mul_comm u (0 - (h - (f + S - F)) / u)
          rw [show now + (0 - (h - (f + S - F)) / u) - z.1 = (now - z.1) + (0 - (h - (f + S - F)) / u) by omega, Int.mul_add, e]
          split <;> omega
        rw [List.map_append]
        exact at_self hm
      · rename_i hc
        rw [hF] at hc
        refine go _ _ _ _ _ _ (by omega) (by omega) (by omega) (by omega) (fun k z hz => nh k z hz) ?_
        rw [List.map_append]
        exact at_self hm
    · rintro ρ M' ⟨L, now, h, c7, c8, c9, rfl, hm, hl, l1, l2, ⟨n1, n2⟩, ⟨h1, h2⟩, ns, nh, l3⟩
      rw [ints_len] at *
      rw [show ((n.toNat : Nat) : Int) = n by omega] at n2
      repeat' (first | walk_at "k2" | fail)
      refine q L ⟨hl, fun x hx => ?_, l2⟩ l3 ns _ _ hm
      have := l1 x hx
      omega
  · cases hgs


theorem ok__law_items {f : Addr} {fd : FuncData} (F : Fun K "_law_items" "_law_items" s__law_items f fd) (m : mg "_law_items" = some (.ref f))  :
    DefOk P w K mg base "_law_items" s__law_items ["rows"] 1 g_itemsN := by
  refine def_mk F m sc__law_items fun cdv A out sh H E Eh hg hr => ⟨_, (ys_cons (y_set (i := 1) sc__law_items.nd rfl (by first | exact .inl rfl | exact .inr rfl) (xlst xa_nil))
      (ys_cons (y_for passesY rfl (yi_list (xv 0)) (yg_tup (n := 2) rfl (ygs_cons (yg_name (i := 2) sc__law_items.nd rfl (by first | exact .inl rfl | exact .inr rfl)) (ygs_cons (yg_name (i := 3) sc__law_items.nd rfl (by first | exact .inl rfl | exact .inr rfl)) ygs_nil))) (ys_one (y_if (YW.t (xw_and (xt_cmp (xo_ne hr) (xv 1) (xlst xa_nil) (nomark _)) (xw_and1 (xt_cmp (xo_eq hr) (xix (xix (xv 1) (xun xo_neg xint)) xint) (xv 2) (nomark _))))) (ys_one (y_asg (xtup (xa_cons (xv 2) (xa_cons (xop xo_add (xix (xix (xv 1) (xun xo_neg xint)) xint) xint) xa_nil))) (yg_ix (xv 1) (xun xo_neg xint)))) (ys_one (y_app (xv 1) (xtup (xa_cons (xv 2) (xa_cons xint xa_nil))))))))
      (ys_one (y_ret (xv 1))))), fun cs M Qh hlen hgs => ?_⟩
  unfold g_itemsN at hgs; split at hgs
  · rename_i xs
    obtain ⟨L, T, rfl, ⟨⟨_, ah1, ah2⟩, hl, hT⟩, q⟩ := hgs
    repeat' (first | walk_at "k2" | fail)
    refine runL_inv (fun i ρ M' => ∃ (ds : List Item) (c2 c3 : Option Cell), ρ = [some (.d (.list (L.map itD))), some (.r 0), c2, c3] ∧ M'[0]? = some (.live (ds.map itD)) ∧ ds.length ≤ i ∧ Asc ds 0 ∧ (∀ x ∈ ds, x.1 ≤ T ∧ 1 ≤ x.2 ∧ x.2 ≤ i) ∧ (∀ x ∈ ds, ∀ y ∈ L.drop i, x.1 ≤ y.1) ∧ expI ds = (L.take i).map (·.1))
      ⟨[], _, _, rfl, rfl, Nat.le_refl _, trivial, fun x hx => (by cases hx), fun x hx => (by cases hx), rfl⟩ ?_ ?_
    · rintro i x ρ M' N hx ⟨ds, c2, c3, rfl, hm, d1, d2, d3, d4, d5⟩ hN
      obtain ⟨t, h, hd, hi, rfl, ed⟩ := items_get hx
      have bt := ah1 _ (List.mem_of_getElem? hd)
      dsimp only at bt
      have pw : ∀ y ∈ L.drop (i + 1), t ≤ y.1 := by
        have := ah2.drop (i := i)
        rw [ed] at this
        exact fun y hy => List.rel_of_pairwise_cons this hy
      have dt : ∀ x ∈ ds, x.1 ≤ t := fun x hx => d4 x hx (t, h) (by rw [ed]; exact List.mem_cons_self)
      have sl : ∀ {es : List Item}, es.length ≤ 60 → (es.map itD).length < sizeLine := fun he => by rw [List.length_map]; exact small_lt4 (by omega)
      rcases List.eq_nil_or_concat ds with rfl | ⟨es, ⟨t0, c0⟩, rfl⟩
      · repeat' (first | with_reducible refine w_isl (at_app hm) ?_ | walk_at "k2" | dsimp only [itD] | refine w_neE (b := true) rfl (.r (.inl (at_app hm))) .new (.lst (n := 39) fun _ h => by cases h) ?_ | refine w_apQ rfl (at_app hm) (sl (es := []) (by decide)) ?_ | fail)
        refine hN _ _ ⟨[(t, 1)], _, _, rfl, at_self (at_app hm), by simp, ⟨bt.1, by decide, trivial⟩, fun x hx => ?_, fun x hx y hy => ?_, ?_⟩
        · cases List.mem_singleton.mp hx
          exact ⟨bt.2, by dsimp only; omega, by dsimp only; omega⟩
        · cases List.mem_singleton.mp hx
          exact pw y hy
        · rw [take_succ_get hd, List.map_append, ← d5]
          rfl
      · rw [List.concat_eq_append] at *
        have em : (es ++ [(t0, c0)]).map itD = es.map itD ++ [itD (t0, c0)] := by rw [List.map_append]; rfl
        have hm' : M'[0]? = some (.live (es.map itD ++ [itD (t0, c0)])) := by rw [← em]; exact hm
        have ee : (es.map itD ++ [itD (t0, c0)]).isEmpty = false := by simp
        have fl : Fl 40 (.list (es.map itD ++ [itD (t0, c0)])) := by rw [← em]; exact Fl.up (itD_flat (n := 2)) (by decide)
        have e0 := d3 (t0, c0) (by simp)
        dsimp only at e0
        have le := dt (t0, c0) (by simp)
        dsimp only at le
        repeat' (first | with_reducible refine w_isl (at_app hm') ?_ | walk_at "k2" | dsimp only [itD] | refine w_neE ee (.r (.inl (at_app hm'))) .new fl ?_ | refine w_ixr (deref_of (at_app hm')) (L2.atI_last _ _) ?_ | refine w_giL rfl (at_app hm') ?_ | refine w_apQ rfl (at_app hm') (by rw [← em]; exact sl (by omega)) ?_ | fail)
        · rename_i hh
          have ht : t0 = t := by simpa using hh
          subst ht
          refine hN _ _ ⟨es ++ [(t0, c0 + 1)], _, _, rfl, by rw [List.map_append]; exact at_self (at_app hm'), by rw [List.length_append] at d1 ⊢; simp only [List.length_cons, List.length_nil] at d1 ⊢; omega, asc_top d2 (by omega), fun x hx => ?_, fun x hx y hy => ?_, ?_⟩
          · rcases List.mem_append.mp hx with hx | hx
            · have := d3 x (List.mem_append.mpr (.inl hx))
              omega
            · cases List.mem_singleton.mp hx
              dsimp only
              omega
          · have := pw y hy
            rcases List.mem_append.mp hx with hx | hx
            · have := dt x (List.mem_append.mpr (.inl hx))
              omega
            · cases List.mem_singleton.mp hx
              exact this
          · rw [take_succ_get hd, List.map_append, ← d5, exp_app, exp_app, exp_one, exp_one, show (c0 + 1).toNat = c0.toNat + 1 by omega, List.replicate_succ', List.append_assoc]
            rfl
        · rename_i hh
          have ht : t0 ≠ t := by simpa using hh
          have bl := asc_below d2
          refine hN _ _ ⟨es ++ [(t0, c0)] ++ [(t, 1)], _, _, rfl, by rw [List.map_append, em]; exact at_self (at_app hm'), by rw [List.length_append] at d1 ⊢; simp only [List.length_append, List.length_cons, List.length_nil] at d1 ⊢; omega, asc_snoc d2 (fun x hx => ?_) (by omega) (by decide), fun x hx => ?_, fun x hx y hy => ?_, ?_⟩
          · rcases List.mem_append.mp hx with hx | hx
            · have := bl.2 x hx
              omega
            · cases List.mem_singleton.mp hx
              dsimp only
              omega
          · rcases List.mem_append.mp hx with hx | hx
            · have := d3 x hx
              omega
            · cases List.mem_singleton.mp hx
              dsimp only
              omega
          · have := pw y hy
            rcases List.mem_append.mp hx with hx | hx
            · have := dt x hx
              omega
            · cases List.mem_singleton.mp hx
              exact this
          · rw [take_succ_get hd, List.map_append, ← d5, exp_app, exp_one]
            rfl
    · rintro ρ M' ⟨ds, c2, c3, rfl, hm, d1, d2, d3, _, d5⟩
      repeat' (first | walk_at "k2" | fail)
      rw [List.length_map] at d1 d3 d5
      rw [List.take_length] at d5
      exact q ds ⟨d1, d2, d3⟩ d5 _ _ hm
  · cases hgs


theorem ok__law_slips {f : Addr} {fd : FuncData} (F : Fun K "_law_slips" "_law_slips" s__law_slips f fd) (m : mg "_law_slips" = some (.ref f)) (z_min : mg "min" = none) :
    DefOk P w K mg base "_law_slips" s__law_slips ["disc", "least", "rows"] 1 g__law_slips := by
  refine def_mk F m sc__law_slips fun cdv A out sh H E Eh hg hr => ⟨_, (ys_cons (y_asg (xtup (xa_cons xint (xa_cons xint (xa_cons xint xa_nil)))) (yg_tup (n := 3) rfl (ygs_cons (yg_name (i := 3) sc__law_slips.nd rfl (by first | exact .inl rfl | exact .inr rfl)) (ygs_cons (yg_name (i := 4) sc__law_slips.nd rfl (by first | exact .inl rfl | exact .inr rfl)) (ygs_cons (yg_name (i := 5) sc__law_slips.nd rfl (by first | exact .inl rfl | exact .inr rfl)) ygs_nil)))))
      (ys_cons (y_for passesY rfl (yi_list (xv 2)) (yg_tup (n := 2) rfl (ygs_cons (yg_name (i := 6) sc__law_slips.nd rfl (by first | exact .inl rfl | exact .inr rfl)) (ygs_cons (yg_name (i := 7) sc__law_slips.nd rfl (by first | exact .inl rfl | exact .inr rfl)) ygs_nil))) (ys_cons (y_par (i := 3) (j := 5) rfl sc__law_slips.nd rfl rfl (by decide) rfl rfl (xa_cons (xcb (xc_min rfl) rfl z_min (by decide +kernel) (xa_cons (xv 4) (xa_cons (xop xo_add (xv 3) (xop xo_mul (xv 1) (xop xo_sub (xv 6) (xv 5)))) xa_nil))) (xa_cons (xv 6) xa_nil)))
      (ys_cons (y_set (i := 4) sc__law_slips.nd rfl (by first | exact .inl rfl | exact .inr rfl) (xop xo_add (xv 4) (xop xo_mul (xv 7) (xix (xv 0) xint))))
      (ys_one (y_if (xt_cmp xo_gt (xop xo_sub (xv 4) (xv 3)) (xop xo_fdiv (xix (xv 0) xint) xint) (nomark _)) (ys_one (y_ret xbl)) ys_nil)))))
      (ys_one (y_ret xbl)))), fun cs M Qh hlen hgs => ?_⟩
  unfold g__law_slips at hgs; split at hgs
  · rename_i R S u xs
    obtain ⟨ds, rfl, ⟨⟨wh, hR⟩, ⟨hu, hu2⟩, hl, hb⟩, q⟩ := hgs
    obtain ⟨w1, w2, w3⟩ := id wh
    generalize hF : R / 2 = F at *
    repeat' (first | walk_at "k2" | fail)
    refine runL_inv (fun i ρ M' => ∃ (f lag last : Int) (c6 c7 : Option Cell), ρ = [some (.d (.tuple [.int R, .int S])), some (.d (.int u)), some (.d (.list (ds.map itD))), some (.d (.int (f - lag))), some (.d (.int f)), some (.d (.int last)), c6, c7] ∧ slipL F S u ds 0 0 = slipL F S u (ds.drop i) last lag ∧ (0 ≤ lag ∧ lag ≤ i * 10 ^ 63) ∧ (0 ≤ f ∧ f ≤ i * 10 ^ 63) ∧ 0 ≤ last ∧ last ≤ 10 ^ 40)
      ⟨0, 0, 0, _, _, rfl, rfl, by omega, by omega, by omega, by omega⟩ ?_ ?_
    · rintro i x ρ M' N hx ⟨f, lag, last, c6, c7, rfl, hs, ⟨l1, l2⟩, ⟨f1, f2⟩, t1, t2⟩ hN
      obtain ⟨⟨t, n⟩, hd, rfl⟩ : ∃ y : Item, ds[i]? = some y ∧ itD y = x := by
        rw [List.getElem?_map] at hx
        cases hd : ds[i]? with
        | none => rw [hd] at hx; cases hx
        | some y => rw [hd] at hx; exact ⟨y, rfl, Option.some.inj hx⟩
      have hi : i < ds.length := (List.getElem?_eq_some_iff.mp hd).1
      have bb := hb _ (List.mem_of_getElem? hd)
      dsimp only at bb
      have ed : ds.drop i = (t, n) :: ds.drop (i + 1) := by
        rw [List.drop_eq_getElem_cons hi]
        congr 1
        exact (List.getElem?_eq_some_iff.mp hd).2
      have es : slipL F S u (ds.drop i) last lag = (decide (F < max 0 (lag - u * (t - last)) + n * S) || slipL F S u (ds.drop (i + 1)) t (max 0 (lag - u * (t - last)) + n * S)) := by rw [ed]; rfl
      rw [es] at hs
      have n0 : 0 ≤ n * S ∧ n * S ≤ 10 ^ 62 := ⟨Int.mul_nonneg (by omega) (by omega), Int.le_trans (Int.mul_le_mul_of_nonneg_right bb.2.2 (by omega)) (Int.mul_le_mul_of_nonneg_left (show S ≤ 10 ^ 31 by omega) (by decide))⟩
      have k1 : CMulW u (t - last) := Sm.mul ⟨by omega, by omega⟩ ⟨by omega, by omega⟩
      have k2 : CMulW n S := Sm.mul ⟨by omega, by omega⟩ ⟨by omega, by omega⟩
      have eh : (if f - lag + u * (t - last) < f then f - lag + u * (t - last) else f) = f + n * S - (max 0 (lag - u * (t - last)) + n * S) := by split <;> omega
      have um : 0 ≤ u * (t - last) ∨ True := .inr trivial
      repeat' (first | walk_at "k2" | dsimp only [itD] | fail)
      · exact k1
      · exact k2
      · exact divR (by decide) (by decide)
      · rename_i h
        rw [eh, hF] at h
        rw [decide_eq_true (show F < max 0 (lag - u * (t - last)) + n * S by omega), Bool.true_or] at hs
        rw [hs] at q
        exact q _
      · rename_i h
        rw [eh, hF] at h
        rw [decide_eq_false (show ¬ F < max 0 (lag - u * (t - last)) + n * S by omega), Bool.false_or] at hs
        have ut : ¬ u * (t - last) < -(10 ^ 200) ∨ True := .inr trivial
        refine hN _ _ ⟨f + n * S, max 0 (lag - u * (t - last)) + n * S, t, _, _, by rw [eh], hs, by omega, by omega, by omega, by omega⟩
    · rintro ρ M' ⟨f, lag, last, c6, c7, rfl, hs, _⟩
      repeat' (first | walk_at "k2" | fail)
      rw [List.length_map, List.drop_length] at hs
      rw [hs] at q
      exact q _
  · cases hgs


theorem ok__law_later {f : Addr} {fd : FuncData} (F : Fun K "_law_later" "_law_later" s__law_later f fd) (m : mg "_law_later" = some (.ref f)) (d__law_ahead : DefOk P w K mg base "_law_ahead" s__law_ahead ["disc", "least", "here", "count"] 1 g_aheadN) (d__law_items : DefOk P w K mg base "_law_items" s__law_items ["rows"] 1 g_itemsN) (d__law_tap : DefOk P w K mg base "_law_tap" s__law_tap ["tank", "many"] 1 g__law_tap) (z_max : mg "max" = none) :
    DefOk P w K mg base "_law_later" s__law_later ["tank", "disc", "least", "count", "far"] 2 g_laterN := by
  refine def_mk F m sc__law_later fun cdv A out sh H E Eh hg hr => ⟨_, (ys_cons (y_par (i := 5) (j := 6) rfl sc__law_later.nd rfl rfl (by decide) rfl rfl (xa_cons xint (xa_cons (xlst xa_nil) xa_nil)))
      (ys_cons (y_for passesY rfl (yi_list (y_cd (d__law_ahead.up (by decide)) b__law_ahead hg hr (by rfl) takesY (xa_cons (xv 1) (xa_cons (xcb (xc_max rfl) rfl z_max (by decide +kernel) (xa_cons xint (xa_cons (xv 2) xa_nil))) (xa_cons xint (xa_cons (xv 3) xa_nil)))))) (yg_tup (n := 2) rfl (ygs_cons (yg_name (i := 7) sc__law_later.nd rfl (by first | exact .inl rfl | exact .inr rfl)) (ygs_cons (yg_name (i := 8) sc__law_later.nd rfl (by first | exact .inl rfl | exact .inr rfl)) ygs_nil))) (ys_cons (y_set (i := 5) sc__law_later.nd rfl (by first | exact .inl rfl | exact .inr rfl) (xop xo_add (xv 5) (xix (xlst (xa_cons xint (xa_cons xint (xa_cons xint (xa_cons (y_cdR (d__law_tap.up (by decide)) b__law_tap hg hr (by rfl) takesY (xa_cons (xv 0) (xa_cons (xop xo_add (xv 4) xint) xa_nil))) xa_nil))))) (y_cdR (d__law_tap.up (by decide)) b__law_tap hg hr (by rfl) takesY (xa_cons (xv 0) (xa_cons xint xa_nil))))))
      (ys_one (y_app (xv 6) (xtup (xa_cons (xop xo_add (xv 7) (xv 5)) (xa_cons (xv 8) xa_nil)))))))
      (ys_one (y_ret (y_cd (d__law_items.up (by decide)) b__law_items hg hr (by rfl) takesY (xa_cons (xv 6) xa_nil)))))), fun cs M Qh hlen hgs => ?_⟩
  unfold g_laterN at hgs; split at hgs
  · rename_i R S u n far a b c
    obtain ⟨⟨⟨⟨s1, s2, s3, s4, s5⟩, c30⟩, ⟨wh, hR⟩, ⟨hu, hu2⟩, ⟨hn, hn2⟩, hf, hf2⟩, q⟩ := hgs
    obtain ⟨w1, w2, w3⟩ := id wh
    repeat' (first | walk_at "k2" | fail)
    refine ⟨⟨⟨wh, hR⟩, ⟨by split <;> omega, by split <;> omega⟩, hn, hn2⟩, fun L ⟨al, ah1, ah2⟩ l40 ns => w_retL ?_⟩
    have ns' : NsP (R / 2) S u (L.map (·.1)) := by rw [show (if u > 1 then u else 1) = u from by split <;> omega] at ns; exact ns
    repeat' (first | walk_at "k2" | refine w_iQF .new fun M4 f4 => ?_ | fail)
    refine runL_inv (fun i ρ M' => ∃ (rows : List Item) (ex a' c' : Int) (c7 c8 : Option Cell), ρ = [some (.r 0), some (.d (.tuple [.int R, .int S])), some (.d (.int u)), some (.d (.int n)), some (.d (.int far)), some (.d (.int ex)), some (.r 1), c7, c8] ∧ At 0 M' b a' c' ∧ M'[1]? = some (.live (rows.map itD)) ∧ (0 ≤ a' ∧ c ≤ c' ∧ c' ≤ c + 2 * i) ∧ (0 ≤ ex ∧ ex ≤ i * (far + 1)) ∧ rows.length = i ∧ (∀ x ∈ rows, 0 ≤ x.1 ∧ x.1 ≤ n * R + i * (far + 1)) ∧ (rows.Pairwise fun (x y : Item) => x.1 ≤ y.1) ∧ (∀ (k l : Nat) (x y z w : Item), k ≤ l → rows[k]? = some x → rows[l]? = some y → L[k]? = some z → L[l]? = some w → w.1 - z.1 ≤ y.1 - x.1) ∧ (∀ (k : Nat) (x z : Item), rows[k]? = some x → L[k]? = some z → x.1 ≤ z.1 + ex) ∧ ∀ x ∈ rows, ∀ y ∈ L.drop i, x.1 ≤ y.1 + ex)
      ⟨[], 0, a, c, _, _, rfl, rfl, rfl, ⟨s1, by omega, by omega⟩, by simp, rfl, fun x hx => (by cases hx), .nil, fun k l x y z w _ hx => (by cases hx), fun k x z hx => (by cases hx), fun x hx => (by cases hx)⟩ ?_ ?_
    · rintro i x ρ M' N hx ⟨rows, ex, a', c', c7, c8, rfl, hm, hr, ⟨a0, c0, c1⟩, ⟨e0, e1⟩, rl, r1, r2, rk, re, r3⟩ hN
      obtain ⟨t, h, hd, hi, rfl, ed⟩ := items_get hx
      have bt := ah1 _ (List.mem_of_getElem? hd)
      dsimp only at bt
      have iN : (i : Int) < n := by omega
      have eF : ((i + 1 : Nat) : Int) * (far + 1) = i * (far + 1) + (far + 1) := by rw [Int.natCast_add, Int.add_mul]; omega
      have pw : ∀ y ∈ L.drop (i + 1), t ≤ y.1 := by
        have := ah2.drop (i := i)
        rw [ed] at this
        exact fun y hy => List.rel_of_pairwise_cons this hy
      have sl : (rows.map itD).length < sizeLine := by rw [List.length_map]; exact small_lt4 (by omega)
      repeat' (first | walk_at "k2" | dsimp only [itD] | fail)
      refine w_tapG rfl hm ⟨⟨a0, s2, s3, by omega, by omega⟩, by omega, by omega⟩ ?_
      intro d1 a1 c1' M1 d10 d11 a10 c10 c11 hm1 kp1
      repeat' (first | walk_at "k2" | fail)
      refine w_tapG rfl hm1.app ⟨⟨a10, s2, s3, by omega, by omega⟩, by decide, by decide⟩ ?_
      intro d2 a2 c2 M2 d20 d21 a20 c20 c21 hm2 kp2
      refine w_ixP (BtI 0 (far + 1)) (deref_of (newK hm1 kp2)) d20 (by simp only [List.length_cons, List.length_nil]; omega) (by walk_at "few") ?_
      rintro x ⟨m, rfl, m0, m1⟩
      have hr2 := keepK kp2 (by decide) (appK (keepK kp1 (by decide) hr))
      repeat' (first | with_reducible refine w_isl hr2 ?_ | walk_at "k2" | refine w_apQ rfl hr2 sl ?_ | fail)
      have ht : ∀ x ∈ rows, x.1 ≤ t + ex := fun x hx => r3 x hx (t, h) (by rw [ed]; exact List.mem_cons_self)
      refine hN _ _ ⟨rows ++ [(t + (ex + m), h)], ex + m, a2, c2, _, _, rfl, setK hm2 (by decide), by rw [List.map_append]; exact at_self hr2, ⟨a20, by omega, by omega⟩, ⟨by omega, by omega⟩, by rw [List.length_append, rl]; rfl, fun x hx => ?_, List.pairwise_append.mpr ⟨r2, List.pairwise_singleton _ _, fun x hx y hy => ?_⟩, dl_snoc rl hd rk (fun k x z hx hz => by have := re k x z hx hz; omega), de_snoc rl hd (fun k x z hx hz => by have := re k x z hx hz; omega), fun x hx y hy => ?_⟩
      · rcases List.mem_append.mp hx with hx | hx
        · have := r1 x hx
          omega
        · cases List.mem_singleton.mp hx
          dsimp only
          omega
      · cases List.mem_singleton.mp hy
        have := ht x hx
        show x.1 ≤ t + (ex + m)
        omega
      · have := pw y hy
        rcases List.mem_append.mp hx with hx | hx
        · have := ht x hx
          omega
        · cases List.mem_singleton.mp hx
          dsimp only
          omega
    · rintro ρ M' ⟨rows, ex, a', c', c7, c8, rfl, hm, hr, ⟨a0, c0, c1⟩, ⟨e0, e1⟩, rl, r1, r2, rk, re, r3⟩
      simp only [List.length_map, al] at c1 e1 rl r1
      repeat' (first | walk_at "k2" | fail)
      have nn : ((n.toNat : Nat) : Int) = n := by omega
      have nf : ((n.toNat : Nat) : Int) * (far + 1) = n * (far + 1) := by rw [nn]
      have eT : n * (R + far + 1) = n * R + n * (far + 1) := by rw [Int.add_assoc, Int.mul_add]
      have bT : n * (R + far + 1) ≤ 60 * (R + far + 1) := Int.mul_le_mul_of_nonneg_right hn2 (by omega)
      refine w_gcF rfl (.cons (.r (.inl hr)) .nil) fun M5 f5 => ?_
      have hm5 : At 0 M5 b a' c' := by
        unfold At
        rw [f5.out 0 fun c hc => by cases List.mem_singleton.mp hc; intro h; cases h]
        exact hm
      refine ⟨rows, n * (R + far + 1), rfl, ⟨⟨rfl, fun x hx => ?_, r2⟩, by omega, by omega⟩, fun ds its ex2 => w_retL ?_⟩
      · have := r1 x hx
        omega
      · repeat' (first | walk_at "k2" | fail)
        rw [rl] at its
        obtain ⟨M9, rfl⟩ := at0 hm5
        exact q ds a' c' its (by rw [ex2, List.length_map, rl]) (by rw [ex2]; exact ns_later (by omega) (by rw [rl, al]) ns' rk) a0 c0 (by omega) _ _ new_at
  · cases hgs


theorem ok__law_is_list {f : Addr} {fd : FuncData} (F : Fun K "_law_is_list" "_law_is_list" s__law_is_list f fd) (m : mg "_law_is_list" = some (.ref f)) (z_abs : mg "abs" = none) (z_isinstance : mg "isinstance" = none) (z_list : mg "list" = none) (z_sorted : mg "sorted" = none) (z_zip : mg "zip" = none) :
    DefOk P w K mg base "_law_is_list" s__law_is_list ["plan", "off", "rows"] 1 g__law_is_list := by
  refine def_mk F m sc__law_is_list fun cdv A out sh H E Eh hg hr => ⟨_, (ys_cons (y_if (xt_not (xt_val (y_isi (T := "list") kit_list rfl z_isinstance rfl z_list (by decide +kernel) (xv 2)))) (ys_one (y_ret xbl)) ys_nil)
      (ys_cons (y_if (xt_cmp (xo_ne hr) (y_lc rfl sc__law_is_list.nd (own := [("now", 4), ("turned", 5)]) (yi_list (xv 2)) (blkOk_by (N := ["plan", "off", "rows", "ticks", "now", "turned", "one", "two"]) (sc := defScope s__law_is_list) (by decide +kernel)) (fun _ _ _ _ _ => (ygw_tup (K := K) (n := 2) rfl rfl (ygsw_cons (ygw_name (i := 4) (by decide) (pg_name sc__law_is_list.nd rfl (.inl rfl))) (ygsw_cons (ygw_name (i := 5) (by decide) (pg_name sc__law_is_list.nd rfl (.inl rfl))) ygsw_nil)))) (fun _ _ _ _ _ => yts_nil) (fun _ _ _ _ _ => (xv 5))) (y_lc rfl sc__law_is_list.nd (own := [("now", 4), ("turned", 5)]) (yi_list (xv 0)) (blkOk_by (N := ["plan", "off", "rows", "ticks", "now", "turned", "one", "two"]) (sc := defScope s__law_is_list) (by decide +kernel)) (fun _ _ _ _ _ => (ygw_tup (K := K) (n := 2) rfl rfl (ygsw_cons (ygw_name (i := 4) (by decide) (pg_name sc__law_is_list.nd rfl (.inl rfl))) (ygsw_cons (ygw_name (i := 5) (by decide) (pg_name sc__law_is_list.nd rfl (.inl rfl))) ygsw_nil)))) (fun _ _ _ _ _ => yts_nil) (fun _ _ _ _ _ => (xv 5))) (nomark _)) (ys_one (y_ret xbl)) ys_nil)
      (ys_cons (y_setLc (i := 3) rfl sc__law_is_list.nd rfl rfl (sw_true rfl rfl rfl (by decide +kernel)) (own := [("now", 4), ("turned", 5)]) (yi_list (xv 2)) (blkOk_by (N := ["plan", "off", "rows", "ticks", "now", "turned", "one", "two"]) (sc := defScope s__law_is_list) (by decide +kernel)) (fun _ _ _ _ _ => (ygw_tup (K := K) (n := 2) rfl rfl (ygsw_cons (ygw_name (i := 4) (by decide) (pg_name sc__law_is_list.nd rfl (.inl rfl))) (ygsw_cons (ygw_name (i := 5) (by decide) (pg_name sc__law_is_list.nd rfl (.inl rfl))) ygsw_nil)))) (fun _ _ _ _ _ => yts_nil) (fun _ _ _ _ _ => (xv 4)))
      (ys_cons (y_if (YW.t (xw_or (xt_cmp (xo_ne hr) (xv 3) (xcb xc_sorted rfl z_sorted (by decide +kernel) (xa_cons (xv 3) xa_nil)) (nomark _)) (xw_or1 (YW.t (xw_and (xt_cmp (xo_ne hr) (xv 3) (xlst xa_nil) (nomark _)) (xw_and1 (xt_cmp xo_lt (xix (xv 3) xint) xint (nomark _)))))))) (ys_one (y_ret xbl)) ys_nil)
      (ys_one (y_ret (xcmp (xo_eq hr) (y_lc rfl sc__law_is_list.nd (own := [("one", 6), ("two", 7)]) (yi_zip rfl z_zip (xa_cons (xv 2) (xa_cons (xv 0) xa_nil))) (blkOk_by (N := ["plan", "off", "rows", "ticks", "now", "turned", "one", "two"]) (sc := defScope s__law_is_list) (by decide +kernel)) (fun _ _ _ _ _ => (ygw_tup (K := K) (n := 2) rfl rfl (ygsw_cons (ygw_name (i := 6) (by decide) (pg_name sc__law_is_list.nd rfl (.inl rfl))) (ygsw_cons (ygw_name (i := 7) (by decide) (pg_name sc__law_is_list.nd rfl (.inl rfl))) ygsw_nil)))) (fun _ _ _ _ _ => (yts_one (xt_cmp xo_gt (xcb xc_abs rfl z_abs (by decide +kernel) (xa_cons (xop xo_sub (xix (xv 6) xint) (xix (xv 7) xint)) xa_nil)) (xv 1) (nomark _)))) (fun _ _ _ _ _ => xint)) (xlst xa_nil) (nomark _)))))))), fun cs M Qh hlen hgs => ?_⟩
  unfold g__law_is_list at hgs; split at hgs
  · rename_i xs off ys
    obtain ⟨ds, es, rfl, rfl, ⟨he, hl⟩, q⟩ := hgs
    have el : es.length = ds.length := by have := congrArg List.length he; rw [List.length_map, List.length_map] at this; exact this
    have l1 : (ds.map itD).length = ds.length := List.length_map ..
    have l2 : (es.map itD).length = es.length := List.length_map ..
    have sec : ∀ zs : List Item, (zs.map itD).map secD = (zs.map (·.2)).map PyData.int := fun zs => by
      rw [List.map_map, List.map_map]
      rfl
    have fst : ∀ zs : List Item, (zs.map itD).map fstD = (zs.map (·.1)).map PyData.int := fun zs => by
      rw [List.map_map, List.map_map]
      rfl
    have lat := isM_late (off := off) (l := 0) he
    repeat' (first | dsimp only [isListD] | walk_at "k2" | fail)
    refine runC_map (f := secD) (by omega) ?_ ?_
    · intro x hx K hK
      obtain ⟨⟨s, n⟩, _, rfl⟩ := List.mem_map.mp hx
      repeat' (first | walk_at "k1" | dsimp only [itD] | with_reducible refine And.intro ?_ ?_)
      exact hK
    rw [sec]
    repeat' (first | walk_at "k2" | fail)
    refine runC_map (f := secD) (by omega) ?_ ?_
    · intro x hx K hK
      obtain ⟨⟨s, n⟩, _, rfl⟩ := List.mem_map.mp hx
      repeat' (first | walk_at "k1" | dsimp only [itD] | with_reducible refine And.intro ?_ ?_)
      exact hK
    rw [sec, ← he]
    repeat' (first | walk_at "k2" | refine w_neLS (derefS_of rfl) (derefS_of rfl) (intsF (l := es.map (·.2))) ?_ | fail)
    refine runC_map (f := fstD) (by omega) ?_ ?_
    · intro x hx K hK
      obtain ⟨⟨s, n⟩, _, rfl⟩ := List.mem_map.mp hx
      repeat' (first | walk_at "k1" | dsimp only [itD] | with_reducible refine And.intro ?_ ?_)
      exact hK
    rw [fst]
    repeat' (first | walk_at "k4" | fail)
    have qf : ¬ LateC off ds es 0 → retD Qh (.bool false) := fun h => q false ⟨fun e => (by cases e), fun h2 => absurd h2 h⟩
    refine w_cut (fun ρ2 M2 => ((es.map (·.1)).Pairwise (· ≤ ·) ∧ ∀ x ∈ es, 0 ≤ x.1) ∧ ∃ c3 c4 c5 c6 c7, ρ2 = [some (.d (.list (ds.map itD))), some (.d (.int off)), some (.d (.list (es.map itD))), c3, c4, c5, c6, c7]) ?_ ?_
    · intro N hN
      repeat' (first | walk_at "k2" | fail)
      refine ⟨es.map (·.1), rfl, fun is' hp hso => ?_⟩
      repeat' (first | walk_at "k2" | fail)
      have shd : ∀ a b : List Int, Shd (.list (a.map PyData.int)) (.list (b.map PyData.int)) := fun a b => Fl.sh (intsF (l := a)) (intsF (l := b)) (by decide) (by decide)
      by_cases hsrt : (es.map (·.1)).Pairwise (· ≤ ·)
      · have ei : is' = es.map (·.1) := perm_sorted_eq hp hso hsrt
        subst ei
        refine w_neLS (derefS_of rfl) (derefS_of rfl) (intsF (l := es.map (·.1))) ?_
        repeat' (first | walk_at "k2" | fail)
        by_cases hes : es = []
        · have ee : ((es.map (·.1)).map PyData.int).isEmpty = true := by rw [hes]; rfl
          refine w_neE ee (.r (.inl rfl)) (.r (.inl rfl)) (intsF (l := es.map (·.1))) ?_
          repeat' (first | walk_at "k2" | fail)
          all_goals exact hN _ _ ⟨⟨hsrt, fun x hx => by rw [hes] at hx; cases hx⟩, _, _, _, _, _, rfl⟩
        · obtain ⟨⟨t, n⟩, r, he2⟩ := List.exists_cons_of_ne_nil hes
          have ee : ((es.map (·.1)).map PyData.int).isEmpty = false := by rw [he2]; rfl
          have e0 : L2.atI ((es.map (·.1)).map PyData.int) (0 : Int) = some (.int t) := by
            rw [he2]
            exact L2.atI_nat (j := 0) rfl
          refine w_neE ee (.r (.inl rfl)) (.r (.inl rfl)) (intsF (l := es.map (·.1))) ?_
          repeat' (first | walk_at "k2" | refine w_ixr (deref_of rfl) e0 ?_ | fail)
          · rename_i h
            refine qf (fun h2 => ?_) _
            have := (lat.mp h2).2.2 (t, n) (by rw [he2]; exact List.mem_cons_self)
            dsimp only at this
            omega
          · rename_i h
            refine hN _ _ ⟨⟨hsrt, fun x hx => ?_⟩, _, _, _, _, _, rfl⟩
            rw [he2, List.map_cons, List.pairwise_cons] at hsrt
            rw [he2] at hx
            rcases List.mem_cons.mp hx with rfl | hx
            · dsimp only
              omega
            · have := hsrt.1 x.1 (List.mem_map_of_mem hx)
              dsimp only at this
              omega
      · have ni : es.map (·.1) ≠ is' := fun e => hsrt (by rw [e]; exact hso)
        refine w_neG (derefS_of rfl) (derefS_of rfl) (w_eqL (shd _ _) (eqv_intsW.trans (decide_eq_false ni)) ?_)
        have qg := qf (fun h => hsrt (lat.mp h).2.1)
        repeat' (first | walk_at "k2" | fail)
        all_goals first | exact qg _ | skip
    · rintro ρ2 M2 ⟨⟨hsrt, hnn⟩, c3, c4, c5, c6, c7, rfl⟩
      repeat' (first | walk_at "k2" | fail)
      refine runC_inv (fun i acc M' => ∃ k : Nat, acc = List.replicate k (.int 1) ∧ k ≤ i ∧ (isM off (es.take i) (ds.take i) = decide (k = 0))) ⟨0, rfl, Nat.le_refl _, rfl⟩ ?_ ?_
      · rintro i x acc M N hx ⟨k, rfl, ki, hk⟩ hN
        obtain ⟨p1, p2, hp1, hp2, rfl⟩ := paired_get _ _ _ _ hx
        obtain ⟨t, n, hd, hi, rfl, _⟩ := items_get hp1
        obtain ⟨s, m, hd2, hi2, rfl, _⟩ := items_get hp2
        rw [take_succ_get hd, take_succ_get hd2, isM_snoc (by rw [List.length_take, List.length_take]; omega), hk] at hN
        have al : (List.replicate k (PyData.int 1)).length < sizeLine := by
          rw [List.length_replicate]
          exact small_lt4 (by omega)
        dsimp only at hN
        repeat' (first | walk_at "k2" | dsimp only [itD] | fail)
        · exact al
        · rename_i h
          refine hN _ _ ⟨k + 1, List.replicate_succ'.symm, by omega, ?_⟩
          rw [← Bool.decide_and, decide_eq_false (show ¬ (t - s ≤ off ∧ s - t ≤ off) by split at h <;> omega), Bool.and_false]
          exact (decide_eq_false (by omega)).symm
        · rename_i h
          refine hN _ _ ⟨k, rfl, by omega, ?_⟩
          rw [← Bool.decide_and, decide_eq_true (show (t - s ≤ off ∧ s - t ≤ off) by split at h <;> omega), Bool.and_true]
      · rintro acc M ⟨k, rfl, _, hk⟩
        rw [paired_len, l1, l2, el, Nat.min_self, List.take_length, List.take_of_length_le (by omega)] at hk
        have qk := q (decide (k = 0)) (by rw [lat, hk]; exact ⟨fun h => ⟨h, hsrt, hnn⟩, fun h => h.1⟩)
        repeat' (first | walk_at "k2" | fail)
        refine w_eqE (b := decide (k = 0)) (by cases k <;> simp) (.app .new) .new (.lst (n := 39) fun x hx => by rw [(List.mem_replicate.mp hx).2]; exact .int) ?_
        exact qk _
  · cases hgs


theorem ok__law_drawn {f : Addr} {fd : FuncData} (F : Fun K "_law_drawn" "_law_drawn" s__law_drawn f fd) (m : mg "_law_drawn" = some (.ref f)) (d__law_tap : DefOk P w K mg base "_law_tap" s__law_tap ["tank", "many"] 1 g__law_tap) (z_enumerate : mg "enumerate" = none) (z_len : mg "len" = none) (z_max : mg "max" = none) (z_min : mg "min" = none) :
    DefOk P w K mg base "_law_drawn" s__law_drawn ["tank", "plan", "off"] 2 g__law_drawn := by
  refine def_mk F m sc__law_drawn fun cdv A out sh H E Eh hg hr => ⟨_, (ys_cons (y_parN (is := [3, 4, 5]) rfl (.cons (pg_name (i := 3) sc__law_drawn.nd rfl (by first | exact .inl rfl | exact .inr rfl)) (.cons (pg_name (i := 4) sc__law_drawn.nd rfl (by first | exact .inl rfl | exact .inr rfl)) (.cons (pg_name (i := 5) sc__law_drawn.nd rfl (by first | exact .inl rfl | exact .inr rfl)) .nil rfl) rfl) rfl) (xa_cons (y_cdR (d__law_tap.up (by decide)) b__law_tap hg hr (by rfl) takesY (xa_cons (xv 0) (xa_cons (xcb xc_len rfl z_len (by decide +kernel) (xa_cons (xv 1) xa_nil)) xa_nil))) (xa_cons (xlst xa_nil) (xa_cons xint xa_nil))))
      (ys_cons (y_set (i := 6) sc__law_drawn.nd rfl (by first | exact .inl rfl | exact .inr rfl) (y_cdR (d__law_tap.up (by decide)) b__law_tap hg hr (by rfl) takesY (xa_cons (xv 0) (xa_cons xint xa_nil))))
      (ys_cons (y_for passesY rfl (yi_enum rfl z_enumerate (xa_cons (xv 1) xa_nil)) (yg_tup (n := 2) rfl (ygs_cons (yg_name (i := 7) sc__law_drawn.nd rfl (by first | exact .inl rfl | exact .inr rfl)) (ygs_cons (yg_name (i := 8) sc__law_drawn.nd rfl (by first | exact .inl rfl | exact .inr rfl)) ygs_nil))) (ys_cons (y_set (i := 9) sc__law_drawn.nd rfl (by first | exact .inl rfl | exact .inr rfl) (xix (xlst (xa_cons (xif (xt_cmp xo_lt (xv 7) (xv 3) (nomark _)) (xv 2) (xop xo_sub xint (xv 2))) (xa_cons (xop xo_sub (y_cdR (d__law_tap.up (by decide)) b__law_tap hg hr (by rfl) takesY (xa_cons (xv 0) (xa_cons (xop xo_add (xop xo_mul xint (xv 2)) xint) xa_nil))) (xv 2)) (xa_cons xint xa_nil)))) (xv 6)))
      (ys_cons (y_set (i := 5) sc__law_drawn.nd rfl (by first | exact .inl rfl | exact .inr rfl) (xif (YW.t (xw_or (xt_cmp (xo_ne hr) (xv 7) (xv 3) (nomark _)) (xw_or1 (xt_cmp xo_gt (xv 6) xint (nomark _))))) (xcb (xc_max3 rfl) rfl z_max (by decide +kernel) (xa_cons (xv 5) (xa_cons xint (xa_cons (xop xo_add (xix (xv 8) xint) (xv 9)) xa_nil)))) (xcb (xc_max rfl) rfl z_max (by decide +kernel) (xa_cons xint (xa_cons (xop xo_add (xix (xv 8) xint) (xv 9)) xa_nil)))))
      (ys_one (y_app (xv 4) (xtup (xa_cons (xv 5) (xa_cons (xix (xv 8) xint) xa_nil))))))))
      (ys_cons (y_if (xt_cmp (xo_eq hr) (xv 6) xint (nomark _)) (ys_one (y_set (i := 4) sc__law_drawn.nd rfl (by first | exact .inl rfl | exact .inr rfl) (xop xo_add (y_lc rfl sc__law_drawn.nd (own := [("now", 10), ("turned", 11)]) (yi_list (xsl (xv 4) xo_none (xo_some (xv 3)))) (blkOk_by (N := ["tank", "plan", "off", "edge", "found", "last", "kind", "spot", "item", "way", "now", "turned"]) (sc := defScope s__law_drawn) (by decide +kernel)) (fun _ _ _ _ _ => (ygw_tup (K := K) (n := 2) rfl rfl (ygsw_cons (ygw_name (i := 10) (by decide) (pg_name sc__law_drawn.nd rfl (.inl rfl))) (ygsw_cons (ygw_name (i := 11) (by decide) (pg_name sc__law_drawn.nd rfl (.inl rfl))) ygsw_nil)))) (fun _ _ _ _ _ => yts_nil) (fun _ _ _ _ _ => (xtup (xa_cons (xcb (xc_min rfl) rfl z_min (by decide +kernel) (xa_cons (xv 10) (xa_cons (xix (xix (xv 4) (xv 3)) xint) xa_nil))) (xa_cons (xv 11) xa_nil))))) (xsl (xv 4) (xo_some (xv 3)) xo_none)))) ys_nil)
      (ys_one (y_ret (xv 4))))))), fun cs M Qh hlen hgs => ?_⟩
  unfold g__law_drawn at hgs; split at hgs
  · rename_i xs off a b c
    obtain ⟨ds, rfl, ⟨⟨⟨s1, s2, s3, s4, s5⟩, c30⟩, ⟨hne, hl, ha, hb⟩, ho, ho2⟩, q⟩ := hgs
    obtain ⟨M0, hM0⟩ : ∃ M0 : Mem, M0 = [.live [.int a, .int b, .int c]] := ⟨_, rfl⟩
    have hm : At 0 M0 b a c := by rw [hM0]; rfl
    rw [← hM0]
    clear hM0
    have el : (ds.map itD).length = ds.length := List.length_map ..
    have dl : 0 < ds.length := List.length_pos_iff.mpr hne
    repeat' (first | walk_at "k2" | fail)
    refine w_tapG (many := ((ds.map itD).length : Nat)) rfl hm ⟨⟨s1, s2, s3, s4, s5⟩, by omega, by omega⟩ ?_
    intro e a1 c1 M1 e0 e1 a10 c10 c11 hm1 kp1
    obtain ⟨k, rfl⟩ : ∃ k : Nat, e = k := ⟨e.toNat, by omega⟩
    repeat' (first | walk_at "k2" | fail)
    refine w_tapG rfl hm1.app ⟨⟨a10, s2, s3, by omega, by omega⟩, by decide, by decide⟩ ?_
    intro kind a2 c2 M2 k0 k1 a20 c20 c21 hm2 kp2
    have h0 := newK hm1 kp2
    have hk0 : M1.length ≠ 0 := by have := hm1.lt; omega
    generalize hkf : M1.length = kf at *
    repeat' (first | walk_at "k2" | fail)
    refine runL_inv (fun i ρ M' => ∃ (fs : List Item) (last a' c' : Int) (c7 c8 c9 c10 c11 : Option Cell), ρ = [some (.r 0), some (.d (.list (ds.map itD))), some (.d (.int off)), some (.d (.int (k : Int))), some (.r kf), some (.d (.int last)), some (.d (.int kind)), c7, c8, c9, c10, c11] ∧ At 0 M' b a' c' ∧ M'[kf]? = some (.live (fs.map itD)) ∧ (0 ≤ a' ∧ c ≤ c' ∧ c' ≤ c + 2 + i) ∧ fs.map (·.2) = (ds.take i).map (·.2))
      ⟨[], 0, a2, c2, _, _, _, _, _, rfl, hm2, h0, ⟨a20, by omega, by omega⟩, rfl⟩ ?_ ?_
    · rintro i x ρ M' N hx ⟨fs, last, a', c', c7, c8, c9, c10, c11, rfl, hm', hf, ⟨a0, c0', c1'⟩, f1⟩ hN
      obtain ⟨y, hy, rfl⟩ : ∃ y, (ds.map itD)[i]? = some y ∧ x = .tuple [.int ((0 + i : Nat) : Int), y] := by
        rw [← List.map_id (ds.map itD)] at hx
        rw [num_map_get] at hx
        obtain ⟨y, h1, h2⟩ := Option.map_eq_some_iff.mp hx
        exact ⟨y, h1, h2.symm⟩
      obtain ⟨t, n, hd, hi, rfl, ed⟩ := items_get hy
      have fl : fs.length = i := by
        have := congrArg List.length f1
        rw [List.length_map, List.length_map, List.length_take] at this
        omega
      have sl : (fs.map itD).length < sizeLine := by rw [List.length_map]; exact small_lt4 (by omega)
      rw [Nat.zero_add]
      have go : ∀ (l a2 c2 : Int) (c7 c8 c9 c10 c11 : Option Cell) (M2 : Mem), At 0 M2 b a2 c2 → M2[kf]? = some (.live ((fs ++ [(l, n)]).map itD)) → 0 ≤ a2 → c' ≤ c2 → c2 ≤ c' + 1 → N [some (.r 0), some (.d (.list (ds.map itD))), some (.d (.int off)), some (.d (.int (k : Int))), some (.r kf), some (.d (.int l)), some (.d (.int kind)), c7, c8, c9, c10, c11] M2 := fun l a2 c2 c7 c8 c9 c10 c11 M2 g5 g6 g7 g8 g9 =>
        hN _ _ ⟨fs ++ [(l, n)], l, a2, c2, c7, c8, c9, c10, c11, rfl, g5, g6, ⟨g7, by omega, by omega⟩, by rw [take_succ_get hd, List.map_append, List.map_append, f1]; rfl⟩
      repeat' (first | walk_at "k4" | dsimp only [itD] | fail)
      refine w_cut (fun ρ2 M2 => ∃ (w a3 c3 : Int), ρ2 = [some (.r 0), some (.d (.list (ds.map itD))), some (.d (.int off)), some (.d (.int (k : Int))), some (.r kf), some (.d (.int last)), some (.d (.int kind)), some (.d (.int (i : Int))), some (.d (.tuple [.int t, .int n])), some (.d (.int w)), c10, c11] ∧ At 0 M2 b a3 c3 ∧ M2[kf]? = some (.live (fs.map itD)) ∧ 0 ≤ a3 ∧ c' ≤ c3 ∧ c3 ≤ c' + 1) ?_ ?_
      · intro N3 hN3
        repeat' (first | walk_at "k2" | fail)
        all_goals first | exact Sm.mul ⟨by omega, by omega⟩ ⟨by omega, by omega⟩ | skip
        all_goals
          refine w_tapG rfl hm' ⟨⟨a0, s2, s3, by omega, by omega⟩, by omega, by omega⟩ ?_
          intro d3 a3 c3 M3 d30 d31 a30 c30 c31 hm3 kp3
          repeat' (first | walk_at "k2" | fail)
          refine w_ixP (BtI (-off) off) (deref_of new_at) k0 (by simp only [List.length_cons, List.length_nil]; omega) (by walk_at "few") ?_
          rintro x ⟨w, rfl, _, _⟩
          repeat' (first | walk_at "k2" | fail)
          exact hN3 _ _ ⟨w, a3, c3, rfl, hm3.app, appK (keepK kp3 (by omega) hf), a30, c30, c31⟩
      · rintro ρ2 M2 ⟨w, a3, c3, rfl, hm3, hf3, a30, c30, c31⟩
        repeat' (first | with_reducible refine w_isl hf3 ?_ | walk_at "k2" | refine w_i3 ?_ | refine w_apQ rfl hf3 sl ?_ | fail)
        all_goals exact go _ a3 c3 _ _ _ _ _ _ (setK hm3 (by omega)) (by rw [List.map_append]; exact at_self hf3) a30 c30 c31
    · rintro ρ M' ⟨fs, last, a', c', c7, c8, c9, c10, c11, rfl, hm', hf, ⟨a0, c0', c1'⟩, f1⟩
      rw [num_len, List.length_map] at c1' f1
      rw [List.take_length] at f1
      have fl : fs.length = ds.length := by
        have := congrArg List.length f1
        rw [List.length_map, List.length_map] at this
        exact this
      have fin : ∀ (es : List Item) (k9 : Nat) (M9 : Mem), es.map (·.2) = ds.map (·.2) → At 0 M9 b a' c' → k9 ≠ 0 → M9[k9]? = some (.live (es.map itD)) → Qh (.r k9) M9 := fun es k9 M9 e9 h9 n9 g9 => by
        obtain ⟨kq, rfl⟩ : ∃ q, k9 = q + 1 := ⟨k9 - 1, by omega⟩
        obtain ⟨M8, rfl⟩ := at0 h9
        exact q es a' c' e9 a0 c0' (by omega) kq M8 g9
      obtain ⟨⟨tk, nk⟩, hk⟩ : ∃ y, fs[k]? = some y := ⟨_, List.getElem?_eq_getElem (by omega)⟩
      have ek : L2.atI (fs.map itD) (k : Int) = some (.tuple [.int tk, .int nk]) := L2.atI_nat (by rw [List.getElem?_map, hk]; rfl)
      have cu1 : cutD (fs.map itD) none (some (k : Int)) = (fs.take k).map itD := by rw [cut_take, List.map_take]
      have cu2 : cutD (fs.map itD) (some (k : Int)) none = (fs.drop k).map itD := by
        rw [cut_from _ _ (by rw [List.length_map]; omega), List.map_drop]
      have cm : ((fs.take k).map itD).map (capD tk) = ((fs.take k).map fun x => ((if tk < x.1 then tk else x.1, x.2) : Item)).map itD := by
        rw [List.map_map, List.map_map]
        exact List.map_congr_left fun x _ => rfl
      repeat' (first | walk_at "k2" | fail)
      · refine w_slF (.r (.inl hf)) ?_
        rw [cu1]
        repeat' (first | walk_at "k2" | refine w_iQF .new fun M4 f4 => ?_ | fail)
        have nl : Cell.r M'.length ≠ .r kf := by
          intro h
          injection h with h
          have := (List.getElem?_eq_some_iff.mp hf).1
          omega
        have hf4 : M4[kf]? = some (.live (fs.map itD)) := by
          rw [f4.out kf fun z hz => by cases List.mem_singleton.mp hz; exact nl]
          exact appK hf
        have hm4 := At.fz f4 hm'.app fun z hz => by cases List.mem_singleton.mp hz; exact nr_len hm'
        refine runC_map (f := capD tk) (by rw [List.length_map, List.length_take]; omega) ?_ ?_
        · intro x hx K hK
          obtain ⟨⟨s, m⟩, hs, rfl⟩ := List.mem_map.mp hx
          repeat' (first | walk_at "k2" | refine w_ixr (deref_of hf4) ek ?_ | dsimp only [itD] | fail)
          exact hK
        rw [cm]
        repeat' (first | walk_at "k2" | fail)
        refine w_slF (.r (.inl (appK hf4))) ?_
        rw [cu2]
        repeat' (first | walk_at "k2" | fail)
        refine w_adF (.app .new) .new (small_le4 (by rw [List.length_map, List.length_map, List.length_map, List.length_take, List.length_drop]; omega)) ?_
        rw [← List.map_append]
        repeat' (first | walk_at "k2" | fail)
        refine fin _ _ _ ?_ hm4.app.app.app ?_ new_at
        · rw [← f1, List.map_append, List.map_map]
          show List.map (fun x : Item => x.2) (fs.take k) ++ _ = _
          rw [← List.map_append, List.take_append_drop]
        · have := hm4.lt
          simp only [List.length_append]
          omega
      · exact fin fs kf M' f1 hm' (by omega) hf
  · cases hgs


theorem ok__law_split {f : Addr} {fd : FuncData} (F : Fun K "_law_split" "_law_split" s__law_split f fd) (m : mg "_law_split" = some (.ref f)) (d__law_tap : DefOk P w K mg base "_law_tap" s__law_tap ["tank", "many"] 1 g__law_tap) (z_min : mg "min" = none) :
    DefOk P w K mg base "_law_split" s__law_split ["tank", "disc"] 2 g__law_split := by
  refine def_mk F m sc__law_split fun cdv A out sh H E Eh hg hr => ⟨_, (ys_cons (y_set (i := 2) sc__law_split.nd rfl (by first | exact .inl rfl | exact .inr rfl) (xcb (xc_min rfl) rfl z_min (by decide +kernel) (xa_cons (xix (xv 1) xint) (xa_cons (xix (xlst (xa_cons xint (xa_cons xint (xa_cons xint (xa_cons (xop xo_add xint (y_cdR (d__law_tap.up (by decide)) b__law_tap hg hr (by rfl) takesY (xa_cons (xv 0) (xa_cons (xop xo_pow xint xint) xa_nil)))) xa_nil))))) (y_cdR (d__law_tap.up (by decide)) b__law_tap hg hr (by rfl) takesY (xa_cons (xv 0) (xa_cons xint xa_nil)))) xa_nil))))
      (ys_cons (y_set (i := 3) sc__law_split.nd rfl (by first | exact .inl rfl | exact .inr rfl) (xop xo_fdiv (xix (xv 1) xint) (xv 2)))
      (ys_one (y_ret (xlst (xa_cons (xtup (xa_cons (xix (xv 1) xint) (xa_cons (xop xo_mul (xv 2) (xv 3)) xa_nil))) (xa_cons (xv 2) (xa_cons (xtup (xa_cons (xix (xv 1) xint) (xa_cons (xv 3) xa_nil))) xa_nil)))))))), fun cs M Qh hlen hgs => ?_⟩
  unfold g__law_split at hgs; split at hgs
  · rename_i R S a b c
    obtain ⟨⟨⟨⟨s1, s2, s3, s4, s5⟩, c30⟩, wh, hR⟩, q⟩ := hgs
    obtain ⟨w1, w2, w3⟩ := id wh
    obtain ⟨M0, hM0⟩ : ∃ M0 : Mem, M0 = [.live [.int a, .int b, .int c]] := ⟨_, rfl⟩
    have hm : At 0 M0 b a c := by rw [hM0]; rfl
    rw [← hM0]
    clear hM0
    repeat' walk_at "k3"
    refine w_tapG rfl hm ⟨⟨s1, s2, s3, s4, s5⟩, by decide, by decide⟩ ?_
    intro d1 a1 c1 M1 d10 d11 a10 c10 c11 hm1 kp1
    repeat' walk_at "k3"
    refine w_tapG rfl hm1.app ⟨⟨a10, s2, s3, by omega, by omega⟩, by decide, by decide⟩ ?_
    intro d2 a2 c2 M2 d20 d21 a20 c20 c21 hm2 kp2
    refine w_ixP (BtI 1 (10 ^ 9)) (deref_of (newK hm1 kp2)) d20 (by simp only [List.length_cons, List.length_nil]; omega) (by walk_at "few") ?_
    rintro x ⟨m, rfl, m0, m1⟩
    repeat' (first | walk_at "k2" | fail)
    all_goals
      generalize ht : (if m < S then m else S) = t
      have h1 : 1 ≤ t := by rw [← ht]; split <;> omega
      have h2 : t ≤ S := by rw [← ht]; split <;> omega
      have h3 : S / t ≤ S := Int.ediv_le_self _ (by omega)
      have h4 : 1 ≤ S / t := Int.le_ediv_of_mul_le (by omega) (by omega)
    · exact divR (by omega) (by omega)
    · exact Sm.mul ⟨by omega, by omega⟩ ⟨by omega, by omega⟩
    · obtain ⟨M9, rfl⟩ := at0 hm2
      exact q t (S / t) _ _ h1 h4 (by rw [Int.mul_comm]; exact Int.ediv_mul_le _ (by omega)) a20 (by omega) (by omega) _ _ new_at
  · cases hgs


theorem ok__law_grown_right {a_Impossible : Addr} {f : Addr} {fd : FuncData} (F : Fun K "_law_grown_right" "_law_grown_right" s__law_grown_right f fd) (m : mg "_law_grown_right" = some (.ref f)) (d__law_slips : DefOk P w K mg base "_law_slips" s__law_slips ["disc", "least", "rows"] 1 g__law_slips) (d__law_tap : DefOk P w K mg base "_law_tap" s__law_tap ["tank", "many"] 1 g__law_tap) (d_late_drive : DefOk P w K mg base "late_drive" s_late_drive ["wheel", "low", "drive", "by"] 6 g_late_drive) (d_slack : DefOk P w K mg base "slack" s_slack ["wheel", "low", "drive"] 6 (x_slack a_Impossible)) (e_Impossible : ErrS K mg "Impossible" a_Impossible [.type "ValueError", .type "Exception", .type "BaseException", .type "object"]) (xm_Impossible : PySem.W.exmOne K (.ref a_Impossible) (.ref a_Impossible) = some true) (z_len : mg "len" = none) :
    DefOk P w K mg base "_law_grown_right" s__law_grown_right ["tank", "disc", "least", "plan"] 7 g__law_grown_right := by
  refine def_mk F m sc__law_grown_right fun cdv A out sh H E Eh hg hr => ⟨_, (ys_cons (y_set (i := 4) sc__law_grown_right.nd rfl (by first | exact .inl rfl | exact .inr rfl) (y_cdR (d__law_tap.up (by decide)) b__law_tap hg hr (by rfl) takesY (xa_cons (xv 0) (xa_cons (xcb xc_len rfl z_len (by decide +kernel) (xa_cons (xv 3) xa_nil)) xa_nil))))
      (ys_cons (y_asg (xix (xv 3) (xv 4)) (yg_tup (n := 2) rfl (ygs_cons (yg_name (i := 5) sc__law_grown_right.nd rfl (by first | exact .inl rfl | exact .inr rfl)) (ygs_cons (yg_name (i := 6) sc__law_grown_right.nd rfl (by first | exact .inl rfl | exact .inr rfl)) ygs_nil))))
      (ys_cons (y_set (i := 7) sc__law_grown_right.nd rfl (by first | exact .inl rfl | exact .inr rfl) (xop xo_add (xop xo_add (xv 6) xint) (y_cdR (d__law_tap.up (by decide)) b__law_tap hg hr (by rfl) takesY (xa_cons (xv 0) (xa_cons (xop xo_add xint (xop xo_fdiv (xix (xv 1) xint) (xop xo_mul xint (xix (xv 1) xint)))) xa_nil)))))
      (ys_cons (y_par (i := 8) (j := 9) rfl sc__law_grown_right.nd rfl rfl (by decide) rfl rfl (xa_cons (xop xo_add (xop xo_add (xsl (xv 3) xo_none (xo_some (xv 4))) (xlst (xa_cons (xtup (xa_cons (xv 5) (xa_cons (xv 7) xa_nil))) xa_nil))) (xsl (xv 3) (xo_some (xop xo_add (xv 4) xint)) xo_none)) (xa_cons xbl xa_nil)))
      (ys_cons (y_try1 rfl rfl ⟨by rfl, by decide, .inl e_Impossible.gC⟩ takesY (fun W Wh pn xe t hp => (ys_one (y_expr (y_cdT (d_slack.up (by decide)) b_slack hg hr (by rfl) t (xa_cons (xv 1) (xa_cons (xv 2) (xa_cons (xv 8) xa_nil))))))) (fun a pn => (ys_one (y_set (i := 9) sc__law_grown_right.nd rfl (by first | exact .inl rfl | exact .inr rfl) xbl))))
      (ys_cons (y_if (xt_cmp (xo_ne hr) (xv 9) (y_cd (d__law_slips.up (by decide)) b__law_slips hg hr (by rfl) takesY (xa_cons (xv 1) (xa_cons (xv 2) (xa_cons (xv 8) xa_nil)))) (nomark _)) (ys_one (y_ret xbl)) ys_nil)
      (ys_one (y_ret (xor_ (xnot (xv 9)) (xone (xcmp (xo_eq hr) (y_cd (d_late_drive.up (by decide)) b_late_drive hg hr (by rfl) takesY (xa_cons (xv 1) (xa_cons (xv 2) (xa_cons (xv 8) (xa_cons xint xa_nil))))) (xv 8) (nomark _)))))))))))), fun cs M Qh hlen hgs => ?_⟩
  unfold g__law_grown_right at hgs; split at hgs
  · rename_i R S u xs a b c
    obtain ⟨ds, rfl, ⟨⟨⟨s1, s2, s3, s4, s5⟩, c30⟩, ⟨wh, hR⟩, ⟨hu, hu2⟩, lg, hb30⟩, q⟩ := hgs
    obtain ⟨w1, w2, w3⟩ := id wh
    obtain ⟨hne, hl, ha, hb⟩ := id lg
    obtain ⟨M0, hM0⟩ : ∃ M0 : Mem, M0 = [.live [.int a, .int b, .int c]] := ⟨_, rfl⟩
    have hm : At 0 M0 b a c := by rw [hM0]; rfl
    rw [← hM0]
    clear hM0
    have el : (ds.map itD).length = ds.length := List.length_map ..
    have dl : 0 < ds.length := List.length_pos_iff.mpr hne
    repeat' (first | walk_at "k2" | fail)
    refine w_tapG (many := ((ds.map itD).length : Nat)) rfl hm ⟨⟨s1, s2, s3, s4, s5⟩, by omega, by omega⟩ ?_
    intro e a1 c1 M1 e0 e1 a10 c10 c11 hm1 kp1
    obtain ⟨k, rfl⟩ : ∃ k : Nat, e = k := ⟨e.toNat, by omega⟩
    obtain ⟨⟨te, ne⟩, hk⟩ : ∃ y, ds[k]? = some y := ⟨_, List.getElem?_eq_getElem (by omega)⟩
    have bk := hb _ (List.mem_of_getElem? hk)
    have bk2 := hb30 _ (List.mem_of_getElem? hk)
    dsimp only at bk bk2
    have ek : L2.atI (ds.map itD) (k : Int) = some (.tuple [.int te, .int ne]) := L2.atI_nat (by rw [List.getElem?_map, hk]; rfl)
    have dv : 0 ≤ R / (2 * S) ∧ R / (2 * S) ≤ R := ⟨Int.ediv_nonneg (by omega) (by omega), Int.ediv_le_self _ (by omega)⟩
    repeat' (first | walk_at "k2" | refine w_ixl ek ?_ | fail)
    · exact Sm.mul ⟨by omega, by omega⟩ ⟨by omega, by omega⟩
    · exact divR (by omega) (by omega)
    refine w_tapG rfl hm1 ⟨⟨a10, s2, s3, by omega, by omega⟩, by omega, by omega⟩ ?_
    intro e2 a2 c2 M2 e20 e21 a20 c20 c21 hm2 kp2
    have kl : k < ds.length := by omega
    have cu1 : cutD (ds.map itD) none (some (k : Int)) = (ds.take k).map itD := by rw [cut_take, List.map_take]
    have cu2 : cutD (ds.map itD) (some ((k : Int) + 1)) none = (ds.drop (k + 1)).map itD := by
      rw [show ((k : Int) + 1) = ((k + 1 : Nat) : Int) by omega, cut_from _ _ (by omega), List.map_drop]
    repeat' (first | walk_at "k3" | fail)
    refine w_slF .d ?_
    rw [cu1]
    repeat' (first | walk_at "k3" | fail)
    refine w_adF (.app .new) .new (small_le4 (by rw [List.length_map, List.length_take]; simp; omega)) ?_
    repeat' (first | walk_at "k3" | fail)
    refine w_slF .d ?_
    rw [cu2]
    repeat' (first | walk_at "k3" | fail)
    refine w_adF (.app .new) .new (small_le4 (by rw [List.length_append, List.length_map, List.length_map, List.length_take, List.length_drop]; simp; omega)) ?_
    have eo : (ds.take k).map itD ++ [PyData.tuple [PyData.int te, PyData.int (ne + 1 + e2)]] ++ (ds.drop (k + 1)).map itD = (ds.take k ++ (te, ne + 1 + e2) :: ds.drop (k + 1)).map itD := by
      rw [List.map_append, List.map_cons, List.append_assoc]
      rfl
    rw [eo]
    have go : LgOk (ds.take k ++ (te, ne + 1 + e2) :: ds.drop (k + 1)) := by
      refine ⟨by simp, by rw [List.length_append, List.length_cons, List.length_take, List.length_drop]; omega, asc_grow ha hk (by omega), fun x hx => ?_⟩
      rcases List.mem_append.mp hx with hx | hx
      · exact hb x (List.mem_of_mem_take hx)
      · rcases List.mem_cons.mp hx with rfl | hx
        · dsimp only
          omega
        · exact hb x (List.mem_of_mem_drop hx)
    generalize ds.take k ++ (te, ne + 1 + e2) :: ds.drop (k + 1) = os at *
    obtain ⟨one, ol, oa, ob⟩ := id go
    have opre : PreV R S u os := ⟨wh, by omega, by omega, by omega, ol, oa, fun x hx => by have := ob x hx; omega⟩
    have fin : ∀ M9, At 0 M9 b a2 c2 → Qh (.d (.bool true)) M9 := fun M9 h9 => by
      obtain ⟨M8, rfl⟩ := at0 h9
      exact q a2 c2 a20 (by omega) (by omega) _
    have slp : (WhI R S ∧ R ≤ 10 ^ 31) ∧ (0 ≤ u ∧ u ≤ 10 ^ 40) ∧ os.length ≤ 60 ∧ ∀ x ∈ os, (0 ≤ x.1 ∧ x.1 ≤ 10 ^ 40) ∧ 1 ≤ x.2 ∧ x.2 ≤ 10 ^ 31 := ⟨⟨wh, by omega⟩, ⟨by omega, by omega⟩, ol, opre.2.2.2.2.2.2⟩
    have o0 : ∀ x ∈ os, 0 ≤ x.1 := fun x hx => (ob x hx).1.1
    have flo : Fl 40 (.list (os.map itD)) := Fl.up (itD_flat (n := 2)) (by decide)
    repeat' (first | walk_at "k2" | with_reducible refine w_try1 ?_ | fail)
    refine w_gcF rfl (.cons .d (.cons .d (.cons .new .nil))) fun M5 f5 => ?_
    have hm5 := At.fz f5 hm2.app.app.app.app.app fun z hz => by
      simp only [List.mem_cons, List.not_mem_nil, or_false] at hz
      rcases hz with rfl | rfl | rfl
      · exact nd0
      · exact nd0
      · exact nr_len hm2.app.app.app.app
    have s5 := f5.sees (Sees.new (xs := os.map itD))
    refine ⟨os, rfl, opre, fun e => w_retD ?_, fun h0 M => ?_, fun m hm' h1 => w_retD ?_⟩
    · have sf : slipL (R / 2) S u os 0 0 = false := by
        cases h : slipL (R / 2) S u os 0 0 with
        | false => rfl
        | true => exact absurd ((slip_ex (by omega) o0).mp h) (no_late (off := 0) (by omega) (Int.le_refl 0) (.inl e) (late_self oa))
      repeat' (first | walk_at "k2" | fail)
      refine w_gcF rfl (.cons .d (.cons .d (.cons s5 .nil))) fun M6 f6 => ⟨os, rfl, slp, w_retD ?_⟩
      have hm6 := At.fz f6 hm5 fun z hz => by
        simp only [List.mem_cons, List.not_mem_nil, or_false] at hz
        rcases hz with rfl | rfl | rfl
        · exact nd0
        · exact nd0
        · exact nr_len hm2.app.app.app.app
      rw [sf]
      repeat' (first | walk_at "k2" | refine w_neBB ?_ | fail)
      · rename_i h
        cases h
      · exact fin _ hm6
    · have st : slipL (R / 2) S u os 0 0 = true := (min_slip (by omega) oa h0).mpr rfl
      refine ⟨true, xm_Impossible, fun _ => ?_, fun h => by cases h⟩
      repeat' (first | walk_at "k2" | fail)
      refine w_gcF rfl (.cons .d (.cons .d (.cons s5 .nil))) fun M6 f6 => ⟨os, rfl, slp, w_retD ?_⟩
      have hm6 := At.fz f6 hm5 fun z hz => by
        simp only [List.mem_cons, List.not_mem_nil, or_false] at hz
        rcases hz with rfl | rfl | rfl
        · exact nd0
        · exact nd0
        · exact nr_len hm2.app.app.app.app
      rw [st]
      repeat' (first | walk_at "k2" | refine w_neBB ?_ | fail)
      · rename_i h
        cases h
      · have s6 := f6.sees s5
        refine w_gcF rfl (.cons .d (.cons .d (.cons s6 (.cons .d .nil)))) fun M7 f7 => ?_
        have hm7 := At.fz f7 hm6 fun z hz => by
          simp only [List.mem_cons, List.not_mem_nil, or_false] at hz
          rcases hz with rfl | rfl | rfl | rfl
          · exact nd0
          · exact nd0
          · exact nr_len hm2.app.app.app.app
          · exact nd0
        refine ⟨os, rfl, ⟨opre, Int.le_refl 0⟩, fun e => (no_min e h0).elim, fun m hm' hlt => ?_, fun m es hm' hle lm => w_retL ?_⟩
        · have := min_uniq hm' h0
          omega
        · have m0 := min_uniq hm' h0
          rw [lm.2.2 m0]
          repeat' (first | walk_at "k2" | fail)
          refine w_eqLS (derefS_of new_at) (sees_dS (.app (f7.sees s6))) flo ?_
          repeat' (first | walk_at "k2" | fail)
          exact fin _ hm7.app
    · have sf : slipL (R / 2) S u os 0 0 = false := by
        cases h : slipL (R / 2) S u os 0 0 with
        | false => rfl
        | true => have := (min_slip (by omega) oa hm').mp h; omega
      repeat' (first | walk_at "k2" | fail)
      refine w_gcF rfl (.cons .d (.cons .d (.cons s5 .nil))) fun M6 f6 => ⟨os, rfl, slp, w_retD ?_⟩
      have hm6 := At.fz f6 hm5 fun z hz => by
        simp only [List.mem_cons, List.not_mem_nil, or_false] at hz
        rcases hz with rfl | rfl | rfl
        · exact nd0
        · exact nd0
        · exact nr_len hm2.app.app.app.app
      rw [sf]
      repeat' (first | walk_at "k2" | refine w_neBB ?_ | fail)
      · rename_i h
        cases h
      · exact fin _ hm6
  · cases hgs


theorem ok__law_right {a_Impossible : Addr} {f : Addr} {fd : FuncData} (F : Fun K "_law_right" "_law_right" s__law_right f fd) (m : mg "_law_right" = some (.ref f)) (d__law_drawn : DefOk P w K mg base "_law_drawn" s__law_drawn ["tank", "plan", "off"] 2 g__law_drawn) (d__law_grown_right : DefOk P w K mg base "_law_grown_right" s__law_grown_right ["tank", "disc", "least", "plan"] 7 g__law_grown_right) (d__law_is_list : DefOk P w K mg base "_law_is_list" s__law_is_list ["plan", "off", "rows"] 1 g__law_is_list) (d__law_slips : DefOk P w K mg base "_law_slips" s__law_slips ["disc", "least", "rows"] 1 g__law_slips) (d__law_tap : DefOk P w K mg base "_law_tap" s__law_tap ["tank", "many"] 1 g__law_tap) (d_late_drive : DefOk P w K mg base "late_drive" s_late_drive ["wheel", "low", "drive", "by"] 6 g_late_drive) (d_shows_late : DefOk P w K mg base "shows_late" s_shows_late ["wheel", "low", "drive", "by", "value"] 9 g_shows_late) (d_slack : DefOk P w K mg base "slack" s_slack ["wheel", "low", "drive"] 6 (x_slack a_Impossible)) (z_bool : mg "bool" = none) (z_int : mg "int" = none) (z_isinstance : mg "isinstance" = none) (z_list : mg "list" = none) (z_range : mg "range" = none) (z_sum : mg "sum" = none) :
    DefOk P w K mg base "_law_right" s__law_right ["tank", "disc", "least", "plan"] 10 g__law_right := by
  refine def_mk F m sc__law_right fun cdv A out sh H E Eh hg hr => ⟨_, (ys_cons (y_set (i := 4) sc__law_right.nd rfl (by first | exact .inl rfl | exact .inr rfl) (xct xc_list rfl z_list (by decide +kernel) (xa_cons (xv 3) xa_nil)))
      (ys_cons (y_if (xt_cmp xo_le (xop xo_mul (xcb (xc_sum rfl) rfl z_sum (by decide +kernel) (xa_cons (y_lc rfl sc__law_right.nd (own := [("now", 12), ("turned", 13)]) (yi_list (xv 3)) (blkOk_by (N := ["tank", "disc", "least", "plan", "kept", "told", "late", "far_off", "late_here", "turn", "rows", "times", "now", "turned"]) (sc := defScope s__law_right) (by decide +kernel)) (fun _ _ _ _ _ => (ygw_tup (K := K) (n := 2) rfl rfl (ygsw_cons (ygw_name (i := 12) (by decide) (pg_name sc__law_right.nd rfl (.inl rfl))) (ygsw_cons (ygw_name (i := 13) (by decide) (pg_name sc__law_right.nd rfl (.inl rfl))) ygsw_nil)))) (fun _ _ _ _ _ => yts_nil) (fun _ _ _ _ _ => (xv 13))) xa_nil)) (xix (xv 1) xint)) (xop xo_fdiv (xix (xv 1) xint) xint) (nomark _)) (ys_cons (y_set (i := 5) sc__law_right.nd rfl (by first | exact .inl rfl | exact .inr rfl) (y_cd (d_slack.up (by decide)) b_slack hg hr (by rfl) takesY (xa_cons (xv 1) (xa_cons (xv 2) (xa_cons (xv 3) xa_nil)))))
      (ys_one (y_ret (xand (xcmp xo_isN (xv 5) xnon (nomark _)) (xone (xcmp xo_isN (y_cd (d_late_drive.up (by decide)) b_late_drive hg hr (by rfl) takesY (xa_cons (xv 1) (xa_cons (xv 2) (xa_cons (xv 3) (xa_cons (xop xo_pow xint xint) xa_nil))))) xnon (nomark _))))))) ys_nil)
      (ys_cons (y_set (i := 5) sc__law_right.nd rfl (by first | exact .inl rfl | exact .inr rfl) (y_cd (d_slack.up (by decide)) b_slack hg hr (by rfl) takesY (xa_cons (xv 1) (xa_cons (xv 2) (xa_cons (xv 3) xa_nil)))))
      (ys_cons (y_if (YW.t (xw_or (xt_not (xt_val (y_isi (T := "int") kit_int rfl z_isinstance rfl z_int (by decide +kernel) (xv 5)))) (xw_or (xt_val (y_isi (T := "bool") kit_bool rfl z_isinstance rfl z_bool (by decide +kernel) (xv 5))) (xw_or1 (xt_not (yt_chn xo_le xo_lt xint (xv 5) (xix (xix (xv 3) (xun xo_neg xint)) xint))))))) (ys_one (y_ret xbl)) ys_nil)
      (ys_cons (y_set (i := 6) sc__law_right.nd rfl (by first | exact .inl rfl | exact .inr rfl) (y_cdK (d_late_drive.up (by decide)) (by decide) kb_late_drive_by_drive_low_wheel hg hr (by rfl) takesY (yk_cons (xop xo_add (xv 5) xint) (yk_cons (xv 3) (yk_cons (xv 2) (yk_cons (xv 1) yk_nil))))))
      (ys_cons (y_if (YW.t (xw_or (xt_cmp xo_isN (xv 6) xnon (nomark _)) (xw_or (xt_not (xt_val (y_cd (d__law_is_list.up (by decide)) b__law_is_list hg hr (by rfl) takesY (xa_cons (xv 3) (xa_cons (xop xo_add (xv 5) xint) (xa_cons (xv 6) xa_nil)))))) (xw_or1 (xt_not (xt_val (y_cd (d__law_slips.up (by decide)) b__law_slips hg hr (by rfl) takesY (xa_cons (xv 1) (xa_cons (xv 2) (xa_cons (xv 6) xa_nil)))))))))) (ys_one (y_ret xbl)) ys_nil)
      (ys_cons (y_set (i := 7) sc__law_right.nd rfl (by first | exact .inl rfl | exact .inr rfl) (xop xo_add (xop xo_add (xv 5) xint) (y_cdR (d__law_tap.up (by decide)) b__law_tap hg hr (by rfl) takesY (xa_cons (xv 0) (xa_cons (xop xo_pow xint xint) xa_nil)))))
      (ys_cons (y_set (i := 8) sc__law_right.nd rfl (by first | exact .inl rfl | exact .inr rfl) (y_cd (d_late_drive.up (by decide)) b_late_drive hg hr (by rfl) takesY (xa_cons (xv 1) (xa_cons (xv 2) (xa_cons (xv 3) (xa_cons (xv 7) xa_nil))))))
      (ys_cons (y_if (YW.t (xw_or (xt_cmp xo_isN (xv 8) xnon (nomark _)) (xw_or (xt_not (xt_val (y_cd (d__law_is_list.up (by decide)) b__law_is_list hg hr (by rfl) takesY (xa_cons (xv 3) (xa_cons (xv 7) (xa_cons (xv 8) xa_nil)))))) (xw_or1 (xt_not (xt_val (y_cd (d__law_slips.up (by decide)) b__law_slips hg hr (by rfl) takesY (xa_cons (xv 1) (xa_cons (xv 2) (xa_cons (xv 8) xa_nil)))))))))) (ys_one (y_ret xbl)) ys_nil)
      (ys_cons (y_if (YW.t (xw_or (xt_cmp xo_notN (y_cd (d_late_drive.up (by decide)) b_late_drive hg hr (by rfl) takesY (xa_cons (xv 1) (xa_cons (xv 2) (xa_cons (xv 3) (xa_cons (xv 5) xa_nil))))) xnon (nomark _)) (xw_or1 (xt_cmp xo_notB (y_cd (d_shows_late.up (by decide)) b_shows_late hg hr (by rfl) takesY (xa_cons (xv 1) (xa_cons (xv 2) (xa_cons (xv 3) (xa_cons (xop xo_add (xv 5) xint) (xa_cons (xv 6) xa_nil)))))) xbl (nomark _))))) (ys_one (y_ret xbl)) ys_nil)
      (ys_cons (y_for passesY rfl (yi_rng1 rfl z_range (xa_cons xint xa_nil)) (yg_name (i := 9) sc__law_right.nd rfl (by first | exact .inl rfl | exact .inr rfl)) (ys_cons (y_set (i := 10) sc__law_right.nd rfl (by first | exact .inl rfl | exact .inr rfl) (y_cdR (d__law_drawn.up (by decide)) b__law_drawn hg hr (by rfl) takesY (xa_cons (xv 0) (xa_cons (xv 3) (xa_cons (xv 5) xa_nil)))))
      (ys_one (y_if (YW.t (xw_and (xt_val (y_cd (d__law_is_list.up (by decide)) b__law_is_list hg hr (by rfl) takesY (xa_cons (xv 3) (xa_cons (xv 5) (xa_cons (xv 10) xa_nil))))) (xw_and1 (xt_val (y_cd (d__law_slips.up (by decide)) b__law_slips hg hr (by rfl) takesY (xa_cons (xv 1) (xa_cons (xop xo_add (xv 2) (y_cdR (d__law_tap.up (by decide)) b__law_tap hg hr (by rfl) takesY (xa_cons (xv 0) (xa_cons xint xa_nil)))) (xa_cons (xv 10) xa_nil)))))))) (ys_one (y_ret xbl)) ys_nil))))
      (ys_cons (y_set (i := 11) sc__law_right.nd rfl (by first | exact .inl rfl | exact .inr rfl) (xop xo_add xint (y_cdR (d__law_tap.up (by decide)) b__law_tap hg hr (by rfl) takesY (xa_cons (xv 0) (xa_cons xint xa_nil)))))
      (ys_cons (y_if (xt_cmp (xo_ne hr) (y_cd (d_slack.up (by decide)) b_slack hg hr (by rfl) takesY (xa_cons (xtup (xa_cons (xop xo_mul (xix (xv 1) xint) (xv 11)) (xa_cons (xop xo_mul (xix (xv 1) xint) (xv 11)) xa_nil))) (xa_cons (xop xo_mul (xv 2) (xv 11)) (xa_cons (xv 3) xa_nil)))) (xv 5) (nomark _)) (ys_one (y_ret xbl)) ys_nil)
      (ys_one (y_ret (xand (xcmp (xo_eq hr) (xv 3) (xv 4) (nomark _)) (xone (y_cdR (d__law_grown_right.up (by decide)) b__law_grown_right hg hr (by rfl) takesY (xa_cons (xv 0) (xa_cons (xv 1) (xa_cons (xv 2) (xa_cons (xv 3) xa_nil)))))))))))))))))))))), fun cs M Qh hlen hgs => ?_⟩
  unfold g__law_right at hgs; split at hgs
  · rename_i R S u xs a b c
    obtain ⟨ds, rfl, ⟨⟨⟨s1, s2, s3, s4, s5⟩, c30⟩, ⟨wh, hR⟩, ⟨hu, hu2⟩, lg, hb30, ns⟩, q⟩ := hgs
    obtain ⟨w1, w2, w3⟩ := id wh
    obtain ⟨hne, hl, ha, hb⟩ := id lg
    have pre : PreV R S u ds := ⟨wh, by omega, by omega, by omega, hl, ha, fun x hx => by have := hb x hx; omega⟩
    have d0 : ∀ x ∈ ds, 0 ≤ x.1 := fun x hx => (hb x hx).1.1
    have noz : ¬ MinU (R / 2) S u ds 0 := fun h => ns ((slip_ex (by omega) d0).mp ((min_slip (by omega) ha h).mpr rfl))
    have el : (ds.map itD).length = ds.length := List.length_map ..
    have sumE := rows_nil (F := R / 2) (S := S) (ds := ds) (by omega) (by omega) fun x hx => (hb x hx).2.1
    have fl : Fl 40 (.list (ds.map itD)) := Fl.up (itD_flat (n := 2)) (by decide)
    have sb0 : 0 ≤ (ds.map (·.2)).sum := sum_nonneg fun y hy => by
      obtain ⟨x, hx, rfl⟩ := List.mem_map.mp hy
      have := hb x hx
      omega
    have sb1 : (ds.map (·.2)).sum ≤ 60 * 10 ^ 31 := by
      have h1 := sum_le (B := 10 ^ 31) (by decide) (l := ds.map (·.2)) fun y hy => by
        obtain ⟨x, hx, rfl⟩ := List.mem_map.mp hy
        exact (hb x hx).2.2
      rw [List.length_map] at h1
      omega
    obtain ⟨M0, hM0⟩ : ∃ M0 : Mem, M0 = [.live [.int a, .int b, .int c]] := ⟨_, rfl⟩
    have hm : At 0 M0 b a c := by rw [hM0]; rfl
    rw [← hM0]
    clear hM0
    have fin : ∀ (a2 c2 : Int) M9, 0 ≤ a2 → c ≤ c2 → c2 ≤ c + 2000 → At 0 M9 b a2 c2 → Qh (.d (.bool true)) M9 := fun a2 c2 M9 g1 g2 g3 h9 => by
      obtain ⟨M8, rfl⟩ := at0 h9
      exact q a2 c2 g1 g2 g3 _
    repeat' (first | walk_at "k3" | fail)
    have hf0 : (M0 ++ [MC.live (ds.map itD)])[M0.length]? = some (.live (ds.map itD)) := new_at
    have kf0 : M0.length ≠ 0 := by have := hm.lt; omega
    have hm1 := hm.app (L := [MC.live (ds.map itD)])
    generalize M0.length = kf at *
    generalize M0 ++ [MC.live (ds.map itD)] = M1 at *
    refine w_cut (fun ρ2 M2 => rowsI (R / 2) S ds ≠ [] ∧ ∃ c5 c6 c7 c8 c9 c10 c11 c12 c13, ρ2 = [some (.r 0), some (.d (.tuple [.int R, .int S])), some (.d (.int u)), some (.d (.list (ds.map itD))), some (.r kf), c5, c6, c7, c8, c9, c10, c11, c12, c13] ∧ At 0 M2 b a c ∧ M2[kf]? = some (.live (ds.map itD))) ?_ ?_
    · intro N hN
      repeat' (first | walk_at "k2" | fail)
      refine runC_map (f := secD) (by omega) ?_ ?_
      · intro x hx K hK
        obtain ⟨⟨s, n⟩, _, rfl⟩ := List.mem_map.mp hx
        repeat' (first | walk_at "k1" | dsimp only [itD] | with_reducible refine And.intro ?_ ?_)
        exact hK
      have e2 : (ds.map itD).map secD = (ds.map (·.2)).map PyData.int := by
        rw [List.map_map, List.map_map]
        rfl
      rw [e2]
      repeat' (first | walk_at "k2" | refine w_sm (deref_of new_at) ?_ | fail)
      · exact Sm.mul ⟨by omega, by omega⟩ ⟨by omega, by omega⟩
      · exact divR (by decide) (by decide)
      · rename_i h
        have r0 := sumE.mpr h
        refine ⟨ds, rfl, pre, fun _ => w_retD ?_, fun h0 => absurd h0 noz, fun m hmu _ => (no_min r0 hmu).elim⟩
        repeat' (first | walk_at "k2" | fail)
        all_goals first | walk_at "sz" | skip
        refine ⟨ds, rfl, ⟨pre, by decide⟩, fun _ => w_retD ?_, fun m hmu _ => (no_min r0 hmu).elim, fun m es hmu _ _ => (no_min r0 hmu).elim⟩
        repeat' (first | walk_at "k2" | fail)
        exact fin a c _ s1 (Int.le_refl _) (by omega) hm1.app
      · rename_i h
        exact hN _ _ ⟨fun e => h (sumE.mp e), _, _, _, _, _, _, _, _, _, rfl, hm1.app, appK hf0⟩
    · clear hm hf0 hm1
      rintro ρ2 M2 ⟨rne, c5, c6, c7, c8, c9, c10, c11, c12, c13, rfl, hm2, hf2⟩
      repeat' (first | walk_at "k3" | fail)
      refine ⟨ds, rfl, pre, fun e => absurd e rne, fun h0 => absurd h0 noz, fun m hmu m1 => w_retD ?_⟩
      obtain ⟨d', ⟨tl, nl⟩, hd⟩ : ∃ d' z, ds = d' ++ [z] := (List.eq_nil_or_concat ds).elim (fun e => absurd e hne) fun ⟨d', z, e⟩ => ⟨d', z, by rw [e, List.concat_eq_append]⟩
      have top := min_top (by omega) ha (T := tl) (fun x hx => by
        rw [hd] at hx ha
        rcases List.mem_append.mp hx with hx | hx
        · have := (asc_below ha).2 x hx
          omega
        · cases List.mem_singleton.mp hx
          exact Int.le_refl _) hmu m1
      have tl8 := hb (tl, nl) (by rw [hd]; simp)
      dsimp only at tl8
      have elast : L2.atI (ds.map itD) (-1) = some (.tuple [.int tl, .int nl]) := by
        rw [hd, List.map_append]
        exact L2.atI_last _ _
      repeat' (first | walk_at "k3" | fail)
      refine w_cut (fun ρ2 M3 => M3 = M2 ∧ ρ2 = [some (.r 0), some (.d (.tuple [.int R, .int S])), some (.d (.int u)), some (.d (.list (ds.map itD))), some (.r kf), some (.d (.int (m - 1))), c6, c7, c8, c9, c10, c11, c12, c13]) ?_ ?_
      · intro N hN
        repeat' (first | dsimp only [isInt, isBool] | refine w_ixl elast ?_ | walk_at "k2" | fail)
        all_goals first | exact hN _ _ ⟨rfl, rfl⟩ | skip
        all_goals first | (exfalso; rename_i h; cases h; done) | (exfalso; omega) | skip
      · rintro ρ3 M3 ⟨rfl, rfl⟩
        repeat' (first | walk_at "k3" | fail)
        refine ⟨ds, rfl, ⟨pre, by omega⟩, fun e => absurd e rne, fun m' hm' hlt => by have := min_uniq hm' hmu; omega, fun m' es hm' hle lm => w_retL ?_⟩
        have em := min_uniq hm' hmu
        subst em
        have wk := wk_late lm.1 lg (by omega)
        have p1 : ∀ x ∈ es, 1 ≤ x.2 := fun x hx => (wk.2.2 x hx).2.1
        have e1 : m' - 1 + 1 = m' := by omega
        have hm3 := hm2.app (L := [MC.live (es.map itD)])
        have hf3 : (M3 ++ [MC.live (es.map itD)])[kf]? = some (.live (ds.map itD)) := appK hf2
        have sk3 : Sees (M3 ++ [MC.live (es.map itD)]) (.r M3.length) (.list (es.map itD)) := .new
        have kl0 : M3.length ≠ 0 := by have := hm2.lt; omega
        have klf : M3.length ≠ kf := by have := (List.getElem?_eq_some_iff.mp hf2).1; omega
        repeat' (first | walk_at "k3" | fail)
        clear hm2 hf2
        generalize M3.length = kl at *
        generalize M3 ++ [MC.live (es.map itD)] = M4 at *
        refine w_cut (fun ρ2 M2 => ρ2 = [some (.r 0), some (.d (.tuple [.int R, .int S])), some (.d (.int u)), some (.d (.list (ds.map itD))), some (.r kf), some (.d (.int (m' - 1))), some (.r kl), c7, c8, c9, c10, c11, c12, c13] ∧ At 0 M2 b a c ∧ M2[kf]? = some (.live (ds.map itD)) ∧ Sees M2 (.r kl) (.list (es.map itD))) ?_ ?_
        · intro N hN
          repeat' (first | walk_at "k2" | rw [e1] | fail)
          refine c_isl hl lm.1 sk3 fun M5 f5 => ?_
          obtain ⟨hm5, hf5⟩ := keep3 f5 kl0 klf hm3 hf3
          have sk5 := f5.sees sk3
          repeat' (first | walk_at "k2" | fail)
          refine c_slp wh (by omega) (by omega) (by omega) wk sk5 true ⟨fun _ => lm.2.1, fun _ => rfl⟩ fun M6 f6 => ?_
          obtain ⟨hm6, hf6⟩ := keep3 f6 kl0 klf hm5 hf5
          repeat' (first | walk_at "k2" | fail)
          exact hN _ _ ⟨rfl, hm6, hf6, f6.sees sk5⟩
        · clear hm3 hf3 sk3
          rintro ρ4 M5 ⟨rfl, hm5, hf5, sk5⟩
          repeat' (first | walk_at "k3" | fail)
          all_goals first | walk_at "sz" | skip
          refine w_tapG rfl hm5 ⟨⟨s1, s2, s3, by omega, by omega⟩, by decide, by decide⟩ ?_
          intro d6 a6 c6 M6 d60 d61 a60 c60 c61 hm6 kp6
          have hf6 := keepK kp6 (by omega) hf5
          have sk6 := sees_kp kp6 sk5 (fun h => by injection h with h; exact kl0 h)
          repeat' (first | walk_at "k3" | fail)
          refine ⟨ds, rfl, ⟨pre, by omega⟩, fun e => absurd e rne, fun m2 hm2 hlt => by have := min_uniq hm2 hmu; omega, fun m2 fs hm2 hle2 lm2 => w_retL ?_⟩
          have em2 := min_uniq hm2 hmu
          subst em2
          have wk2 := wk_late lm2.1 lg (by omega)
          have hm7 := hm6.app (L := [MC.live (fs.map itD)])
          have hf7 : (M6 ++ [MC.live (fs.map itD)])[kf]? = some (.live (ds.map itD)) := appK hf6
          have sk7 : Sees (M6 ++ [MC.live (fs.map itD)]) (.r kl) (.list (es.map itD)) := sk6.app
          have sh7 : Sees (M6 ++ [MC.live (fs.map itD)]) (.r M6.length) (.list (fs.map itD)) := .new
          have kh0 : M6.length ≠ 0 := by have := hm6.lt; omega
          have khf : M6.length ≠ kf := by have := (List.getElem?_eq_some_iff.mp hf6).1; omega
          repeat' (first | walk_at "k3" | fail)
          clear hm5 hf5 sk5 hm6 hf6 sk6
          generalize M6.length = kh at *
          generalize M6 ++ [MC.live (fs.map itD)] = M7 at *
          refine w_cut (fun ρ2 M2 => ρ2 = [some (.r 0), some (.d (.tuple [.int R, .int S])), some (.d (.int u)), some (.d (.list (ds.map itD))), some (.r kf), some (.d (.int (m2 - 1))), some (.r kl), some (.d (.int (m2 - 1 + 1 + d6))), some (.r kh), c9, c10, c11, c12, c13] ∧ At 0 M2 b a6 c6 ∧ M2[kf]? = some (.live (ds.map itD)) ∧ Sees M2 (.r kl) (.list (es.map itD))) ?_ ?_
          · intro N hN
            repeat' (first | walk_at "k2" | fail)
            refine c_isl hl (late_weak (by omega) lm2.1) sh7 fun M8 f8 => ?_
            obtain ⟨hm8, hf8⟩ := keep3 f8 kh0 khf hm7 hf7
            repeat' (first | walk_at "k2" | fail)
            refine c_slp wh (by omega) (by omega) (by omega) wk2 (f8.sees sh7) true ⟨fun _ => lm2.2.1, fun _ => rfl⟩ fun M9 f9 => ?_
            obtain ⟨hm9, hf9⟩ := keep3 f9 kh0 khf hm8 hf8
            repeat' (first | walk_at "k2" | fail)
            exact hN _ _ ⟨rfl, hm9, hf9, f9.sees (f8.sees sk7)⟩
          · clear hm7 hf7 sk7 sh7
            rintro ρ5 M8 ⟨rfl, hm8, hf8, sk8⟩
            repeat' (first | walk_at "k3" | fail)
            refine w_cut (fun ρ2 M2 => ρ2 = [some (.r 0), some (.d (.tuple [.int R, .int S])), some (.d (.int u)), some (.d (.list (ds.map itD))), some (.r kf), some (.d (.int (m2 - 1))), some (.r kl), some (.d (.int (m2 - 1 + 1 + d6))), some (.r kh), c9, c10, c11, c12, c13] ∧ At 0 M2 b a6 c6 ∧ M2[kf]? = some (.live (ds.map itD))) ?_ ?_
            · intro N hN
              repeat' (first | walk_at "k2" | fail)
              refine ⟨ds, rfl, ⟨pre, by omega⟩, fun e => absurd e rne, fun m3 hm3 hlt => w_retD ?_, fun m3 gs hm3 hle3 lm3 => by have := min_uniq hm3 hmu; omega⟩
              repeat' (first | walk_at "k2" | fail)
              refine w_gcF rfl (.cons .d (.cons .d (.cons .d (.cons .d (.cons sk8 .nil))))) fun MA fA => ⟨ds, es, rfl, rfl, ⟨pre, by omega, late_weak (by omega) lm.1, lm.2.1, wk_up wk⟩, w_retD ?_⟩
              have hmA := At.fz fA hm8 fun z hz => by
                simp only [List.mem_cons, List.not_mem_nil, or_false] at hz
                rcases hz with rfl | rfl | rfl | rfl | rfl <;> first | exact nd0 | (intro h; injection h with h; exact kl0 h)
              have hfA : MA[kf]? = some (.live (ds.map itD)) := by
                rw [fA.out kf fun z hz => ?_]
                · exact hf8
                · simp only [List.mem_cons, List.not_mem_nil, or_false] at hz
                  rcases hz with rfl | rfl | rfl | rfl | rfl <;> first | (intro h; cases h; done) | (intro h; injection h with h; exact klf h)
              repeat' (first | walk_at "k2" | refine w_notB ?_ | fail)
              all_goals first | exact hN _ _ ⟨rfl, hmA, hfA⟩ | (exfalso; rename_i h; revert h; decide)
            · clear hm8 hf8 sk8
              rintro ρ6 M9 ⟨rfl, hm9, hf9⟩
              repeat' (first | walk_at "k2" | fail)
              refine runL_inv (fun i ρ M' => ∃ (a' c' : Int) (c9 c10 : Option Cell), ρ = [some (.r 0), some (.d (.tuple [.int R, .int S])), some (.d (.int u)), some (.d (.list (ds.map itD))), some (.r kf), some (.d (.int (m2 - 1))), some (.r kl), some (.d (.int (m2 - 1 + 1 + d6))), some (.r kh), c9, c10, c11, c12, c13] ∧ At 0 M' b a' c' ∧ M'[kf]? = some (.live (ds.map itD)) ∧ 0 ≤ a' ∧ c ≤ c' ∧ c' ≤ c + 2 + 201 * i)
                ⟨a6, c6, _, _, rfl, hm9, hf9, a60, c60, by omega⟩ ?_ ?_
              · rintro i x ρ M' N hx ⟨a', c', c9, c10, rfl, hm', hf', a0', c0', c1'⟩ hN
                obtain ⟨hi, rfl⟩ := ints_get hx
                have hi6 : i < 6 := hi
                repeat' (first | walk_at "k2" | fail)
                refine w_ldrawnG rfl hm' ⟨⟨⟨a0', s2, s3, by omega, by omega⟩, by omega⟩, lg, by omega, by omega⟩ ?_
                intro gs kg aB cB MB heg aB0 cB0 cB1 hmB kpB ekg hkg
                have hfB := keepK kpB (by omega) hf'
                have kg0 : kg ≠ 0 := by have := hm'.lt; omega
                have kgf : kg ≠ kf := by have := (List.getElem?_eq_some_iff.mp hf').1; omega
                repeat' (first | walk_at "k2" | fail)
                refine w_gcF rfl (.cons .d (.cons .d (.cons (.r (.inl hkg)) .nil))) fun MD fD => ⟨ds, gs, rfl, rfl, ⟨heg, hl⟩, fun bb hbb => w_retD ?_⟩
                obtain ⟨hmD, hfD⟩ := keep3 fD kg0 kgf hmB hfB
                have skD := fD.sees (.r (.inl hkg))
                cases bb with
                | false =>
                  repeat' (first | walk_at "k2" | fail)
                  exact hN _ _ ⟨aB, cB, _, _, rfl, hmD, hfD, aB0, by omega, by omega⟩
                | true =>
                  have lcg := hbb.mp rfl
                  have nog := no_late (F := R / 2) (S := S) (u := u) (off := m2 - 1) (by omega) (by omega) (.inr (by rw [Int.sub_add_cancel]; exact hmu)) lcg
                  repeat' (first | walk_at "k2" | fail)
                  refine w_tapG rfl hmD ⟨⟨aB0, s2, s3, by omega, by omega⟩, by decide, by decide⟩ ?_
                  intro dE aE cE ME dE0 dE1 aE0 cE0 cE1 hmE kpE
                  have hfE := keepK kpE (by omega) hfD
                  have skE := sees_kp kpE skD (fun h => by injection h with h; exact kg0 h)
                  repeat' (first | walk_at "k2" | fail)
                  refine c_slp wh (by omega) (by omega) (by omega) (wk_late lcg lg (by omega)) skE false ⟨fun h => (by cases h), fun h => absurd (slip_more (fun hij hx hy => late_asc lcg hij hx hy) (by omega) h) nog⟩ fun MF fF => ?_
                  obtain ⟨hmF, hfF⟩ := keep3 fF kg0 kgf hmE hfE
                  repeat' (first | walk_at "k2" | fail)
                  exact hN _ _ ⟨aE, cE, _, _, rfl, hmF, hfF, aE0, by omega, by omega⟩
              · rintro ρ MC ⟨aC, cC, c9, c10, rfl, hmC, hfC, aC0, cC0, cC1⟩
                replace cC1 : cC ≤ c + 1300 := by rw [ints_len] at cC1; have : ((6 : Int).toNat : Int) = 6 := rfl; omega
                repeat' (first | walk_at "k2" | fail)
                refine w_tapG rfl hmC ⟨⟨aC0, s2, s3, by omega, by omega⟩, by decide, by decide⟩ ?_
                intro tt aG cG MG tt0 tt1 aG0 cG0 cG1 hmG kpG
                have hfG := keepK kpG (by omega) hfC
                obtain ⟨tm, htm⟩ : ∃ tm, tm = 2 + tt := ⟨_, rfl⟩
                have tm1 : 1 ≤ tm ∧ tm ≤ 10 := by omega
                have mR : R * tm ≤ R * 10 := Int.mul_le_mul_of_nonneg_left tm1.2 (by omega)
                have mR1 : R * 1 ≤ R * tm := Int.mul_le_mul_of_nonneg_left tm1.1 (by omega)
                have mS : S * 1 ≤ S * tm := Int.mul_le_mul_of_nonneg_left tm1.1 (by omega)
                have mU : u * tm ≤ u * 10 := Int.mul_le_mul_of_nonneg_left tm1.2 (by omega)
                have mU1 : u * 1 ≤ u * tm := Int.mul_le_mul_of_nonneg_left tm1.1 (by omega)
                have mW : 2 * (S * tm) ≤ R * tm - 1 := by
                  have := Int.mul_le_mul_of_nonneg_right (show 2 * S ≤ R - 1 by omega) (show 0 ≤ tm by omega)
                  rw [Int.sub_mul, Int.one_mul, Int.mul_assoc] at this
                  omega
                have preS : PreV (R * tm) (S * tm) (u * tm) ds := ⟨⟨by omega, by omega, by omega⟩, by omega, by omega, by omega, pre.2.2.2.2⟩
                repeat' (first | walk_at "k2" | rw [← htm] | fail)
                · exact Sm.mul ⟨by omega, by omega⟩ ⟨by omega, by omega⟩
                · exact Sm.mul ⟨by omega, by omega⟩ ⟨by omega, by omega⟩
                · exact Sm.mul ⟨by omega, by omega⟩ ⟨by omega, by omega⟩
                refine ⟨ds, rfl, preS, fun e => absurd (rows_scale tm1.1 e) rne, fun h0 => absurd (min_scale tm1.1 (by omega) h0) noz, fun m4 hm4 h4 => w_retD ?_⟩
                have em4 := min_uniq (min_scale tm1.1 (by omega) hm4) hmu
                subst em4
                repeat' (first | walk_at "k2" | refine w_eqLS rfl (derefS_of hfG) fl ?_ | fail)
                all_goals first | (exfalso; rename_i h; simp at h; done) | skip
                refine w_grownG rfl hmG ⟨⟨⟨aG0, s2, s3, by omega, by omega⟩, by omega⟩, ⟨wh, hR⟩, ⟨hu, hu2⟩, lg, hb30⟩ ?_
                intro aH cH MH aH0 cH0 cH1 hmH
                repeat' (first | walk_at "k2" | fail)
                exact fin aH cH _ aH0 (by omega) (by omega) hmH
  · cases hgs


theorem ok_law {a_Impossible : Addr} {f : Addr} {fd : FuncData} (F : Fun K "law" "law" s_law f fd) (m : mg "law" = some (.ref f)) (d__law_disc : DefOk P w K mg base "_law_disc" s__law_disc ["tank", "top"] 2 g__law_disc) (d__law_later : DefOk P w K mg base "_law_later" s__law_later ["tank", "disc", "least", "count", "far"] 2 g_laterN) (d__law_least : DefOk P w K mg base "_law_least" s__law_least ["tank", "disc"] 2 g__law_least) (d__law_right : DefOk P w K mg base "_law_right" s__law_right ["tank", "disc", "least", "plan"] 10 g__law_right) (d__law_split : DefOk P w K mg base "_law_split" s__law_split ["tank", "disc"] 2 g__law_split) (d__law_tank : DefOk P w K mg base "_law_tank" s__law_tank ["script", "at"] 1 g__law_tank) (d__law_tap : DefOk P w K mg base "_law_tap" s__law_tap ["tank", "many"] 1 g__law_tap) (d_slack : DefOk P w K mg base "slack" s_slack ["wheel", "low", "drive"] 6 (x_slack a_Impossible)) (z_len : mg "len" = none) (z_max : mg "max" = none) (z_min : mg "min" = none) (z_range : mg "range" = none) :
    DefOk P w K mg base "law" s_law ["script"] 11 g_law := by
  refine def_mk F m sc_law fun cdv A out sh H E Eh hg hr => ⟨_, (ys_cons (y_for passesY rfl (yi_rng1 rfl z_range (xa_cons (xcb (xc_max rfl) rfl z_max (by decide +kernel) (xa_cons xint (xa_cons (xcb (xc_min rfl) rfl z_min (by decide +kernel) (xa_cons xint (xa_cons (xcb xc_len rfl z_len (by decide +kernel) (xa_cons (xv 0) xa_nil)) xa_nil))) xa_nil))) xa_nil)) (yg_name (i := 1) sc_law.nd rfl (by first | exact .inl rfl | exact .inr rfl)) (ys_cons (y_set (i := 2) sc_law.nd rfl (by first | exact .inl rfl | exact .inr rfl) (y_cd (d__law_tank.up (by decide)) b__law_tank hg hr (by rfl) takesY (xa_cons (xv 0) (xa_cons (xv 1) xa_nil))))
      (ys_one (y_for passesY rfl (yi_rng1 rfl z_range (xa_cons xint xa_nil)) (yg_name (i := 3) sc_law.nd rfl (by first | exact .inl rfl | exact .inr rfl)) (ys_cons (y_asg (y_cdR (d__law_split.up (by decide)) b__law_split hg hr (by rfl) takesY (xa_cons (xv 2) (xa_cons (y_cdR (d__law_disc.up (by decide)) b__law_disc hg hr (by rfl) takesY (xa_cons (xv 2) (xa_cons (xix (xlst (xa_cons (xop xo_pow xint xint) (xa_cons xint (xa_cons (xop xo_pow xint xint) (xa_cons xint (xa_cons (xop xo_pow xint xint) xa_nil)))))) (xv 3)) xa_nil))) xa_nil))) (yg_lst (n := 3) rfl (ygs_cons (yg_name (i := 4) sc_law.nd rfl (by first | exact .inl rfl | exact .inr rfl)) (ygs_cons (yg_name (i := 5) sc_law.nd rfl (by first | exact .inl rfl | exact .inr rfl)) (ygs_cons (yg_name (i := 6) sc_law.nd rfl (by first | exact .inl rfl | exact .inr rfl)) ygs_nil)))))
      (ys_cons (y_set (i := 7) sc_law.nd rfl (by first | exact .inl rfl | exact .inr rfl) (y_cdR (d__law_least.up (by decide)) b__law_least hg hr (by rfl) takesY (xa_cons (xv 2) (xa_cons (xv 4) xa_nil))))
      (ys_cons (y_set (i := 8) sc_law.nd rfl (by first | exact .inl rfl | exact .inr rfl) (y_cdR (d__law_later.up (by decide)) b__law_later hg hr (by rfl) takesY (xa_cons (xv 2) (xa_cons (xv 4) (xa_cons (xv 7) (xa_cons (xop xo_add xint (y_cdR (d__law_tap.up (by decide)) b__law_tap hg hr (by rfl) takesY (xa_cons (xv 2) (xa_cons xint xa_nil)))) (xa_cons (xix (xlst (xa_cons xint (xa_cons (xop xo_pow xint xint) (xa_cons (xop xo_pow xint xint) xa_nil)))) (y_cdR (d__law_tap.up (by decide)) b__law_tap hg hr (by rfl) takesY (xa_cons (xv 2) (xa_cons xint xa_nil)))) xa_nil)))))))
      (ys_one (y_if (xt_not (xt_val (y_cdR (d__law_right.up (by decide)) b__law_right hg hr (by rfl) takesY (xa_cons (xv 2) (xa_cons (xv 6) (xa_cons (xv 7) (xa_cons (y_lc rfl sc_law.nd (own := [("now", 9), ("turned", 10)]) (yi_list (xv 8)) (blkOk_by (N := ["script", "at", "tank", "turn", "disc", "times", "fine", "least", "plan", "now", "turned"]) (sc := defScope s_law) (by decide +kernel)) (fun _ _ _ _ _ => (ygw_tup (K := K) (n := 2) rfl rfl (ygsw_cons (ygw_name (i := 9) (by decide) (pg_name sc_law.nd rfl (.inl rfl))) (ygsw_cons (ygw_name (i := 10) (by decide) (pg_name sc_law.nd rfl (.inl rfl))) ygsw_nil)))) (fun _ _ _ _ _ => yts_nil) (fun _ _ _ _ _ => (xtup (xa_cons (xv 9) (xa_cons (xop xo_mul (xv 10) (xv 5)) xa_nil))))) xa_nil))))))) (ys_one (y_ret xbl)) ys_nil)))))))))
      (ys_one (y_ret (xcmp (xo_eq hr) (y_cd (d_slack.up (by decide)) b_slack hg hr (by rfl) takesY (xa_cons (xtup (xa_cons xint (xa_cons xint xa_nil))) (xa_cons xint (xa_cons (xlst (xa_cons (xtup (xa_cons xint (xa_cons xint xa_nil))) (xa_cons (xtup (xa_cons xint (xa_cons xint xa_nil))) (xa_cons (xtup (xa_cons xint (xa_cons xint xa_nil))) xa_nil)))) xa_nil)))) xint (nomark _))))), fun cs M Qh hlen hgs => ?_⟩
  unfold g_law at hgs; split at hgs
  · rename_i ns
    obtain ⟨hl, _, q⟩ := hgs
    repeat' walk_at "k2"
    all_goals first | walk_at "sz" | skip
    refine runL_inv (fun i ρ M' => ∃ c1 c2 c3 c4 c5 c6 c7 c8 c9 c10 : Option Cell, ρ = [some (.s ns), c1, c2, c3, c4, c5, c6, c7, c8, c9, c10]) ⟨_, _, _, _, _, _, _, _, _, _, rfl⟩ ?_ ?_
    · rintro i x ρ M N hx ⟨c1, c2, c3, c4, c5, c6, c7, c8, c9, c10, rfl⟩ hN
      obtain ⟨hi, rfl⟩ := ints_get hx
      have hi8 : i < 10 := by (repeat' split at hi) <;> omega
      repeat' walk_at "k2"
      refine ⟨⟨by omega, by omega⟩, fun a b sok => w_retL ?_⟩
      obtain ⟨s1, s2, s3, s4, s5⟩ := sok
      repeat' walk_at "k2"
      refine runL_inv (fun j ρ M' => ∃ (n : Nat) (a c : Int) (z3 z4 z5 z6 z7 z8 z9 z10 : Option Cell), ρ = [some (.s ns), some (.d (.int i)), some (.r n), z3, z4, z5, z6, z7, z8, z9, z10] ∧ At n M' b a c ∧ 0 ≤ a ∧ 0 ≤ c ∧ c ≤ 3000 * j) ⟨M.length, a, 0, _, _, _, _, _, _, _, _, rfl, new_at, s1, by omega, by omega⟩ ?_ ?_
      · rintro j x ρ M' N' hx' ⟨n, a, c, z3, z4, z5, z6, z7, z8, z9, z10, rfl, hm, a0, c0, cj⟩ hN'
        obtain ⟨hj, rfl⟩ := ints_get hx'
        have hj6 : j < 5 := hj
        repeat' walk_at "k2"
        all_goals first | walk_at "sz" | skip
        refine w_ixP (BtI 6 (10 ^ 28)) (deref_of new_at) (by omega) (by simp only [List.length_cons, List.length_nil]; omega) (by walk_at "few") ?_
        rintro x ⟨top, rfl, f1, f2⟩
        repeat' walk_at "k2"
        refine w_discG rfl hm.app ⟨⟨⟨a0, s2, s3, c0, by omega⟩, by omega⟩, by omega, by omega⟩ ?_
        intro R S a1 c1' M1 wh rR a10 c10 c11 hm1 _
        repeat' walk_at "k2"
        refine w_splitG rfl hm1 ⟨⟨⟨a10, s2, s3, by omega, by omega⟩, by omega⟩, wh, by omega⟩ ?_
        intro t un k a2 c2' M2 t1 un1 tu a20 c20 c21 hm2 hk
        obtain ⟨w1, w2, w3⟩ := id wh
        have tun : 1 ≤ t * un := by have := Int.mul_le_mul t1 un1 (by decide) (by omega); omega
        have wh1 : WhI R (t * un) := ⟨w1, tun, by omega⟩
        have unS : un ≤ t * un := by have := Int.mul_le_mul_of_nonneg_right t1 (show 0 ≤ un by omega); omega
        have tS : t ≤ t * un := by have := Int.mul_le_mul_of_nonneg_left un1 (show 0 ≤ t by omega); omega
        have wh2 : WhI R un := ⟨w1, un1, by omega⟩
        refine w_tpL (deref_of hk) rfl ?_
        repeat' walk_at "k2"
        refine w_leastG rfl hm2 ⟨⟨⟨a20, s2, s3, by omega, by omega⟩, by omega⟩, wh1, by omega⟩ ?_
        intro u a3 c3' M3 u1 u2 a30 c30 c31 hm3 _
        repeat' walk_at "k2"
        refine w_tapG rfl hm3 ⟨⟨a30, s2, s3, by omega, by omega⟩, by decide, by decide⟩ ?_
        intro d4 a4 c4' M4 d40 d41 a40 c40 c41 hm4 _
        repeat' walk_at "k2"
        all_goals first | walk_at "sz" | skip
        refine w_tapG rfl hm4.app ⟨⟨a40, s2, s3, by omega, by omega⟩, by decide, by decide⟩ ?_
        intro d5 a5 c5' M5 d50 d51 a50 c50 c51 hm5 kp5
        refine w_ixP (BtI 9 (10 ^ 27)) (deref_of (newK hm4 kp5)) d50 (by simp only [List.length_cons, List.length_nil]; omega) (by walk_at "few") ?_
        rintro x ⟨far, rfl, fa0, fa1⟩
        repeat' walk_at "k2"
        refine w_laterNG rfl hm5 ⟨⟨⟨a50, s2, s3, by omega, by omega⟩, by omega⟩, ⟨wh1, by omega⟩, ⟨by omega, by omega⟩, ⟨by omega, by omega⟩, by omega, by omega⟩ ?_
        intro ds k7 a7 c7' M7 its el nsp a70 c70 c71 hm7 nk7 hk7
        have hT : (1 + d4) * (R + far + 1) ≤ 10 ^ 33 := by
          have := Int.mul_le_mul_of_nonneg_right (show 1 + d4 ≤ 60 by omega) (show 0 ≤ R + far + 1 by omega)
          omega
        obtain ⟨lg, nsl⟩ := lg_mul (F := R / 2) t1 (by omega) (by omega) hT its (by omega) nsp
        have em : (ds.map itD).map (mulT t) = (ds.map fun x => ((x.1, x.2 * t) : Item)).map itD := by
          rw [List.map_map, List.map_map]
          exact List.map_congr_left fun x _ => rfl
        repeat' (first | walk_at "k2" | refine w_iQF (.r (.inl hk7)) fun M9 f9 => ?_ | fail)
        have hm9 := At.fz f9 hm7 fun z hz => by cases List.mem_singleton.mp hz; intro h; cases h; exact nk7 rfl
        refine runC_map (f := mulT t) (by have := its.1; rw [List.length_map]; omega) ?_ ?_
        · intro x hx K hK
          obtain ⟨⟨s, m⟩, hs, rfl⟩ := List.mem_map.mp hx
          have bs := its.2.2 _ hs
          dsimp only at bs
          repeat' (first | walk_at "k2" | dsimp only [itD] | fail)
          · exact Sm.mul ⟨by omega, by omega⟩ ⟨by omega, by omega⟩
          · exact hK
        rw [em]
        repeat' (first | walk_at "k2" | fail)
        have nl9 : Cell.r M9.length ≠ .r n := by
          intro h
          injection h with h
          have := hm9.lt
          omega
        refine w_gcRF rfl (.cons .d (.cons .d (.cons .new .nil))) hm9.app (fun z hz => by simp only [List.mem_cons, List.not_mem_nil, or_false] at hz; rcases hz with rfl | rfl | rfl <;> first | exact nl9 | (intro h; cases h)) fun M10 f10 hm10 => ⟨_, rfl, ⟨⟨⟨a70, s2, s3, by omega, by omega⟩, by omega⟩, ⟨wh2, by omega⟩, ⟨by omega, by omega⟩, lg, mul30 t1 (by omega) (by omega) its, nsl⟩, fun a' c' h1 h2 h3 => w_retDR ?_⟩
        repeat' (first | walk_at "k2" | fail)
        exact hN' _ _ ⟨n, a', c', _, _, _, _, _, _, _, _, rfl, at_set hm10, h1, by omega, by omega⟩
      · rintro ρ M' ⟨n, a, c, z3, z4, z5, z6, z7, z8, z9, z10, rfl, hm, a0, c0, cj⟩
        repeat' walk_at "k2"
        exact hN _ _ ⟨_, _, _, _, _, _, _, _, _, _, rfl⟩
    · rintro ρ M ⟨c1, c2, c3, c4, c5, c6, c7, c8, c9, c10, rfl⟩
      repeat' (first | walk_at "k2" | fail)
      refine w_gcF rfl (.cons .d (.cons .d (.cons .new .nil))) fun M3 f3 => ?_
      refine ⟨[(0, 1), (10, 1), (20, 1)], rfl, pre1, fun e => ?_, fun h => ?_, fun m hm h1 => w_retD ?_⟩
      · rw [rows1] at e
        cases e
      · have := min1 h
        omega
      · have := min1 hm
        subst this
        repeat' (first | walk_at "k2" | fail)
        exact q _
  · cases hgs


end
end Lw
namespace Lw
open PySem PySem.Spec PyProof.Rows L2 Kt
/-! ## the end -/
theorem fun_uniq {K : PySem.W.Frag} {x : Str} {st : Stmt} {f : Addr} {fd fd' : FuncData} (F : Fun K x x st f fd) (F' : Fun K x x st f fd') : fd = fd' := by
  obtain ⟨_, _, _, _, _, _, _, _, _, _, l, _⟩ := F.ex
  obtain ⟨_, _, _, _, _, _, _, _, _, _, l', _⟩ := F'.ex
  rw [l] at l'
  cases l'
  rfl
def Has (K : PySem.W.Frag) (mg : Str → Option Value) (x : Str) (st : Stmt) : Prop := ∃ f fd, Fun K x x st f fd ∧ mg x = some (.ref f)
theorem has_mk {K : PySem.W.Frag} {h : Heap} {mg : Str → Option Value} {x : Str} {st : Stmt} (X : K.In h) (G : h.Ns mainGlobals mg) {f : Addr} {od an : Option Addr} {sl : Array (Option Value)} {oc kV dc pm cd ct : Value}
    (a : PySem.W.nsIn K mainGlobals x = some (some (.ref f))) (l : K.lookup f = some ⟨oc, od, .func (PySem.W.fnOf x x (defArgs st) (defBody st) (defScope st) .none kV dc pm an cd ct), sl⟩) (c : PySem.W.codeIn K cd x = true) (k : PySem.W.keepIn K (.ref f) = true) : Has K mg x st :=
  ⟨f, _, fun_mk l c k, PySem.W.mg_of X G a⟩
def HasB (K : PySem.W.Frag) (mg : Str → Option Value) (x : Str) (st : Stmt) : Prop := ∃ f fd, FunB K x st f fd ∧ mg x = some (.ref f)
theorem hasB_mk {K : PySem.W.Frag} {h : Heap} {mg : Str → Option Value} {x : Str} {st : Stmt} (X : K.In h) (G : h.Ns mainGlobals mg) {f T : Addr} {od an oe : Option Addr} {sl sl' : Array (Option Value)} {n : Nat} {tc : Value} {oc kV dc pm cd ct : Value}
    (a : PySem.W.nsIn K mainGlobals x = some (some (.ref f))) (l : K.lookup f = some ⟨oc, od, .func (PySem.W.fnOf x x (defArgs st) (defBody st) (defScope st) (.ref T) kV dc pm an cd ct), sl⟩) (t : K.lookup T = some ⟨tc, oe, .seq #[.bool false] n, sl'⟩) (c : PySem.W.codeIn K cd x = true) (k : PySem.W.keepIn K (.ref f) = true) : HasB K mg x st :=
  ⟨f, _, ⟨⟨_, _, _, _, _, _, _, _, _, _, rfl, l, c, .inr ⟨by simp, T, _, [.bool false], n, rfl, t, rfl, .cons rfl .nil⟩, .inl rfl⟩, k⟩, PySem.W.mg_of X G a⟩
theorem wish_ok {K : PySem.W.Frag} {H : Hp} {a : Addr} {ns : List Int} (hl : ns.length ≤ 63) (hb : ∀ z ∈ ns, Builtin.Int.intBits z ≤ 1048576) (hS : SqL K H a (ns.map V.int)) : Kt.spD K 1 g_law [.ref a] H (fun v _ => v = .bl true) fun _ _ _ => False := by
  refine ⟨rfl, [.s ns], [], fun c _ => c = .d (.bool true), fun _ _ => False, H, [], ⟨hl, hb, fun _ => rfl⟩, ⟨fun _ _ e => e, fun n c l h => by simp at h, List.nodup_nil, rfl, fun l hl => by cases hl⟩, .cons ⟨a, rfl, hS⟩ .nil, ?_, ?_⟩
  · rintro c M' v B' as' H' rfl _ _ ok
    cases ok
    rfl
  · exact fun _ _ _ _ _ _ h => h.elim
theorem all_ok {P : Program} {w : World} {K : PySem.W.Frag} {mg : Str → Option Value} {a_Impossible : Addr} (h_fore_part : Has K mg "fore_part" s_fore_part) (h_back_part : Has K mg "back_part" s_back_part) (h_rest_at : Has K mg "rest_at" s_rest_at) (h_aim_at : Has K mg "aim_at" s_aim_at) (h_lost_at : Has K mg "lost_at" s_lost_at) (h_moved : Has K mg "moved" s_moved) (h_is_number : Has K mg "is_number" s_is_number) (h_is_number_from : Has K mg "is_number_from" s_is_number_from) (h_is_pair : Has K mg "is_pair" s_is_pair) (h_check_wheel : Has K mg "check_wheel" s_check_wheel) (h_is_item : Has K mg "is_item" s_is_item) (h_check_drive : HasB K mg "check_drive" s_check_drive) (h_check_number_from : Has K mg "check_number_from" s_check_number_from) (h_check_pull_from : Has K mg "check_pull_from" s_check_pull_from) (h_check_pull : Has K mg "check_pull" s_check_pull) (h_is_beginning : Has K mg "is_beginning" s_is_beginning) (h_check_beginning : Has K mg "check_beginning" s_check_beginning) (h_summed : Has K mg "summed" s_summed) (h_check_play : Has K mg "check_play" s_check_play) (h_marks_of : Has K mg "marks_of" s_marks_of) (h_play : Has K mg "play" s_play) (h_slips : Has K mg "slips" s_slips) (h_is_kept : Has K mg "is_kept" s_is_kept) (h_check_slack : Has K mg "check_slack" s_check_slack) (h_rows_over : Has K mg "rows_over" s_rows_over) (h_least_change : Has K mg "least_change" s_least_change) (h_weakest : Has K mg "weakest" s_weakest) (h_slack : Has K mg "slack" s_slack) (h_brought_together : Has K mg "brought_together" s_brought_together) (h_late_drive : Has K mg "late_drive" s_late_drive) (h_is_late : Has K mg "is_late" s_is_late) (h_shows_late : Has K mg "shows_late" s_shows_late) (h__law_tank : Has K mg "_law_tank" s__law_tank) (h__law_tap : Has K mg "_law_tap" s__law_tap) (h__law_disc : Has K mg "_law_disc" s__law_disc) (h__law_least : Has K mg "_law_least" s__law_least) (h__law_ahead : Has K mg "_law_ahead" s__law_ahead) (h__law_items : Has K mg "_law_items" s__law_items) (h__law_slips : Has K mg "_law_slips" s__law_slips) (h__law_later : Has K mg "_law_later" s__law_later) (h__law_is_list : Has K mg "_law_is_list" s__law_is_list) (h__law_drawn : Has K mg "_law_drawn" s__law_drawn) (h__law_split : Has K mg "_law_split" s__law_split) (h__law_grown_right : Has K mg "_law_grown_right" s__law_grown_right) (h__law_right : Has K mg "_law_right" s__law_right) (h_law : Has K mg "law" s_law)  (e_Impossible : ErrS K mg "Impossible" a_Impossible [.type "ValueError", .type "Exception", .type "BaseException", .type "object"]) (xm_Impossible : PySem.W.exmOne K (.ref a_Impossible) (.ref a_Impossible) = some true)  (z_abs : mg "abs" = none) (z_bool : mg "bool" = none) (z_enumerate : mg "enumerate" = none) (z_int : mg "int" = none) (z_isinstance : mg "isinstance" = none) (z_len : mg "len" = none) (z_list : mg "list" = none) (z_max : mg "max" = none) (z_min : mg "min" = none) (z_range : mg "range" = none) (z_sorted : mg "sorted" = none) (z_sum : mg "sum" = none) (z_tuple : mg "tuple" = none) (z_zip : mg "zip" = none) (c_MOST_ITEMS : ∃ t, mg "MOST_ITEMS" = some (.int 60 t)) {base : Heap} : DefOk P w K mg base "law" s_law ["script"] 11 g_law := by
  have d_fore_part : DefOk P w K mg base "fore_part" s_fore_part ["wheel"] 1 g_fore_part := let ⟨_, _, F, m⟩ := h_fore_part; ok_fore_part F m 
  have d_back_part : DefOk P w K mg base "back_part" s_back_part ["wheel"] 1 g_back_part := let ⟨_, _, F, m⟩ := h_back_part; ok_back_part F m 
  have d_rest_at : DefOk P w K mg base "rest_at" s_rest_at ["wheel", "field", "place"] 2 g_rest_at := let ⟨_, _, F, m⟩ := h_rest_at; ok_rest_at F m d_back_part
  have d_aim_at : DefOk P w K mg base "aim_at" s_aim_at ["wheel", "field", "place"] 3 g_aim_at := let ⟨_, _, F, m⟩ := h_aim_at; ok_aim_at F m d_rest_at
  have d_lost_at : DefOk P w K mg base "lost_at" s_lost_at ["wheel", "field", "place"] 4 g_lost_at := let ⟨_, _, F, m⟩ := h_lost_at; ok_lost_at F m d_aim_at
  have d_moved : DefOk P w K mg base "moved" s_moved ["wheel", "field", "place", "pull", "ticks"] 3 g_moved := let ⟨_, _, F, m⟩ := h_moved; ok_moved F m d_rest_at z_abs
  have d_is_number : DefOk P w K mg base "is_number" s_is_number ["value"] 1 g_is_number := let ⟨_, _, F, m⟩ := h_is_number; ok_is_number F m z_bool z_int z_isinstance
  have d_is_number_from : DefOk P w K mg base "is_number_from" s_is_number_from ["value", "least"] 2 g_is_number_from := let ⟨_, _, F, m⟩ := h_is_number_from; ok_is_number_from F m d_is_number
  have d_is_pair : DefOk P w K mg base "is_pair" s_is_pair ["value"] 1 g_is_pair := let ⟨_, _, F, m⟩ := h_is_pair; ok_is_pair F m z_isinstance z_len z_tuple
  have d_check_wheel : DefOk P w K mg base "check_wheel" s_check_wheel ["wheel"] 3 g_check_wheel := let ⟨_, _, F, m⟩ := h_check_wheel; ok_check_wheel F m d_is_number_from d_is_pair
  have d_is_item : DefOk P w K mg base "is_item" s_is_item ["value", "least_tick"] 3 g_is_item := let ⟨_, _, F, m⟩ := h_is_item; ok_is_item F m d_is_number d_is_number_from d_is_pair
  have d_check_drive : DefOkB P w K mg base "check_drive" s_check_drive ["drive", "ahead"] 4 g_check_drive := let ⟨_, _, F, m⟩ := h_check_drive; ok_check_drive F m d_is_item c_MOST_ITEMS z_enumerate z_isinstance z_len z_list
  have d_check_number_from : DefOk P w K mg base "check_number_from" s_check_number_from ["value", "least"] 3 g_check_number_from := let ⟨_, _, F, m⟩ := h_check_number_from; ok_check_number_from F m d_is_number_from
  have d_check_pull_from : DefOk P w K mg base "check_pull_from" s_check_pull_from ["pull", "least"] 3 g_check_pull_from := let ⟨_, _, F, m⟩ := h_check_pull_from; ok_check_pull_from F m d_is_number_from
  have d_check_pull : DefOk P w K mg base "check_pull" s_check_pull ["pull"] 4 g_check_pull := let ⟨_, _, F, m⟩ := h_check_pull; ok_check_pull F m d_check_pull_from
  have d_is_beginning : DefOk P w K mg base "is_beginning" s_is_beginning ["wheel", "value"] 3 g_is_beginning := let ⟨_, _, F, m⟩ := h_is_beginning; ok_is_beginning F m d_back_part d_fore_part d_is_number_from
  have d_check_beginning : DefOk P w K mg base "check_beginning" s_check_beginning ["wheel", "place"] 4 g_check_beginning := let ⟨_, _, F, m⟩ := h_check_beginning; ok_check_beginning F m d_is_beginning
  have d_summed : DefOk P w K mg base "summed" s_summed ["items"] 1 g_summed := let ⟨_, _, F, m⟩ := h_summed; ok_summed F m z_sorted
  have d_check_play : DefOk P w K mg base "check_play" s_check_play ["wheel", "pull", "place", "drive"] 5 g_check_play := let ⟨_, _, F, m⟩ := h_check_play; ok_check_play F m d_check_beginning d_check_drive d_check_pull d_check_wheel
  have d_marks_of : DefOk P w K mg base "marks_of" s_marks_of ["wheel", "pull", "place", "drive"] 4 g_marks_of := let ⟨_, _, F, m⟩ := h_marks_of; ok_marks_of F m d_moved
  have d_play : DefOk P w K mg base "play" s_play ["wheel", "pull", "place", "drive"] 6 g_play := let ⟨_, _, F, m⟩ := h_play; ok_play F m d_check_play d_lost_at d_marks_of
  have d_slips : DefOk P w K mg base "slips" s_slips ["wheel", "pull", "place", "drive"] 7 g_slips := let ⟨_, _, F, m⟩ := h_slips; ok_slips F m d_play z_enumerate
  have d_is_kept : DefOk P w K mg base "is_kept" s_is_kept ["wheel", "pull", "place", "drive"] 8 g_is_kept := let ⟨_, _, F, m⟩ := h_is_kept; ok_is_kept F m d_slips
  have d_check_slack : DefOk P w K mg base "check_slack" s_check_slack ["wheel", "low", "drive"] 5 g_check_slack := let ⟨_, _, F, m⟩ := h_check_slack; ok_check_slack F m d_check_drive d_check_pull d_check_wheel
  have d_rows_over : DefOk P w K mg base "rows_over" s_rows_over ["wheel", "drive"] 2 g_rows_over := let ⟨_, _, F, m⟩ := h_rows_over; ok_rows_over F m d_fore_part z_len z_range
  have d_least_change : DefOk P w K mg base "least_change" s_least_change ["low", "drive", "row"] 1 g_least_change := let ⟨_, _, F, m⟩ := h_least_change; ok_least_change F m z_max
  have d_weakest : DefOk P w K mg base "weakest" s_weakest ["wheel", "low", "drive"] 3 g_weakest := let ⟨_, _, F, m⟩ := h_weakest; ok_weakest F m d_least_change d_rows_over z_min
  have d_slack : DefOk P w K mg base "slack" s_slack ["wheel", "low", "drive"] 6 (x_slack a_Impossible) := let ⟨_, _, F, m⟩ := h_slack; ok_slack F m d_check_slack d_weakest e_Impossible
  have d_brought_together : DefOk P w K mg base "brought_together" s_brought_together ["drive", "first", "last", "by"] 1 g_brought_together := let ⟨_, _, F, m⟩ := h_brought_together; ok_brought_together F m z_max z_min
  have d_late_drive : DefOk P w K mg base "late_drive" s_late_drive ["wheel", "low", "drive", "by"] 6 g_late_drive := let ⟨_, _, F, m⟩ := h_late_drive; ok_late_drive F m d_brought_together d_check_number_from d_check_slack d_weakest
  have d_is_late : DefOk P w K mg base "is_late" s_is_late ["drive", "by", "value"] 3 g_is_late := let ⟨_, _, F, m⟩ := h_is_late; ok_is_late F m d_is_number d_is_number_from d_is_pair z_abs z_isinstance z_len z_list z_zip
  have d_shows_late : DefOk P w K mg base "shows_late" s_shows_late ["wheel", "low", "drive", "by", "value"] 9 g_shows_late := let ⟨_, _, F, m⟩ := h_shows_late; ok_shows_late F m d_check_number_from d_check_slack d_is_kept d_is_late d_summed
  have d__law_tank : DefOk P w K mg base "_law_tank" s__law_tank ["script", "at"] 1 g__law_tank := let ⟨_, _, F, m⟩ := h__law_tank; ok__law_tank F m z_abs z_int z_len z_max
  have d__law_tap : DefOk P w K mg base "_law_tap" s__law_tap ["tank", "many"] 1 g__law_tap := let ⟨_, _, F, m⟩ := h__law_tap; ok__law_tap F m z_int
  have d__law_disc : DefOk P w K mg base "_law_disc" s__law_disc ["tank", "top"] 2 g__law_disc := let ⟨_, _, F, m⟩ := h__law_disc; ok__law_disc F m d__law_tap
  have d__law_least : DefOk P w K mg base "_law_least" s__law_least ["tank", "disc"] 2 g__law_least := let ⟨_, _, F, m⟩ := h__law_least; ok__law_least F m d__law_tap z_max
  have d__law_ahead : DefOk P w K mg base "_law_ahead" s__law_ahead ["disc", "least", "here", "count"] 1 g_aheadN := let ⟨_, _, F, m⟩ := h__law_ahead; ok__law_ahead F m z_min z_range
  have d__law_items : DefOk P w K mg base "_law_items" s__law_items ["rows"] 1 g_itemsN := let ⟨_, _, F, m⟩ := h__law_items; ok__law_items F m 
  have d__law_slips : DefOk P w K mg base "_law_slips" s__law_slips ["disc", "least", "rows"] 1 g__law_slips := let ⟨_, _, F, m⟩ := h__law_slips; ok__law_slips F m z_min
  have d__law_later : DefOk P w K mg base "_law_later" s__law_later ["tank", "disc", "least", "count", "far"] 2 g_laterN := let ⟨_, _, F, m⟩ := h__law_later; ok__law_later F m d__law_ahead d__law_items d__law_tap z_max
  have d__law_is_list : DefOk P w K mg base "_law_is_list" s__law_is_list ["plan", "off", "rows"] 1 g__law_is_list := let ⟨_, _, F, m⟩ := h__law_is_list; ok__law_is_list F m z_abs z_isinstance z_list z_sorted z_zip
  have d__law_drawn : DefOk P w K mg base "_law_drawn" s__law_drawn ["tank", "plan", "off"] 2 g__law_drawn := let ⟨_, _, F, m⟩ := h__law_drawn; ok__law_drawn F m d__law_tap z_enumerate z_len z_max z_min
  have d__law_split : DefOk P w K mg base "_law_split" s__law_split ["tank", "disc"] 2 g__law_split := let ⟨_, _, F, m⟩ := h__law_split; ok__law_split F m d__law_tap z_min
  have d__law_grown_right : DefOk P w K mg base "_law_grown_right" s__law_grown_right ["tank", "disc", "least", "plan"] 7 g__law_grown_right := let ⟨_, _, F, m⟩ := h__law_grown_right; ok__law_grown_right F m d__law_slips d__law_tap d_late_drive d_slack e_Impossible xm_Impossible z_len
  have d__law_right : DefOk P w K mg base "_law_right" s__law_right ["tank", "disc", "least", "plan"] 10 g__law_right := let ⟨_, _, F, m⟩ := h__law_right; ok__law_right F m d__law_drawn d__law_grown_right d__law_is_list d__law_slips d__law_tap d_late_drive d_shows_late d_slack z_bool z_int z_isinstance z_list z_range z_sum
  have d_law : DefOk P w K mg base "law" s_law ["script"] 11 g_law := let ⟨_, _, F, m⟩ := h_law; ok_law F m d__law_disc d__law_later d__law_least d__law_right d__law_split d__law_tank d__law_tap d_slack z_len z_max z_min z_range
  exact d_law
theorem law_fd {P : Program} {w : World} {K : PySem.W.Frag} {mg : Str → Option Value} {fa : Addr} (hfa : mg "law" = some (.ref fa)) {a_Impossible : Addr} (h_fore_part : Has K mg "fore_part" s_fore_part) (h_back_part : Has K mg "back_part" s_back_part) (h_rest_at : Has K mg "rest_at" s_rest_at) (h_aim_at : Has K mg "aim_at" s_aim_at) (h_lost_at : Has K mg "lost_at" s_lost_at) (h_moved : Has K mg "moved" s_moved) (h_is_number : Has K mg "is_number" s_is_number) (h_is_number_from : Has K mg "is_number_from" s_is_number_from) (h_is_pair : Has K mg "is_pair" s_is_pair) (h_check_wheel : Has K mg "check_wheel" s_check_wheel) (h_is_item : Has K mg "is_item" s_is_item) (h_check_drive : HasB K mg "check_drive" s_check_drive) (h_check_number_from : Has K mg "check_number_from" s_check_number_from) (h_check_pull_from : Has K mg "check_pull_from" s_check_pull_from) (h_check_pull : Has K mg "check_pull" s_check_pull) (h_is_beginning : Has K mg "is_beginning" s_is_beginning) (h_check_beginning : Has K mg "check_beginning" s_check_beginning) (h_summed : Has K mg "summed" s_summed) (h_check_play : Has K mg "check_play" s_check_play) (h_marks_of : Has K mg "marks_of" s_marks_of) (h_play : Has K mg "play" s_play) (h_slips : Has K mg "slips" s_slips) (h_is_kept : Has K mg "is_kept" s_is_kept) (h_check_slack : Has K mg "check_slack" s_check_slack) (h_rows_over : Has K mg "rows_over" s_rows_over) (h_least_change : Has K mg "least_change" s_least_change) (h_weakest : Has K mg "weakest" s_weakest) (h_slack : Has K mg "slack" s_slack) (h_brought_together : Has K mg "brought_together" s_brought_together) (h_late_drive : Has K mg "late_drive" s_late_drive) (h_is_late : Has K mg "is_late" s_is_late) (h_shows_late : Has K mg "shows_late" s_shows_late) (h__law_tank : Has K mg "_law_tank" s__law_tank) (h__law_tap : Has K mg "_law_tap" s__law_tap) (h__law_disc : Has K mg "_law_disc" s__law_disc) (h__law_least : Has K mg "_law_least" s__law_least) (h__law_ahead : Has K mg "_law_ahead" s__law_ahead) (h__law_items : Has K mg "_law_items" s__law_items) (h__law_slips : Has K mg "_law_slips" s__law_slips) (h__law_later : Has K mg "_law_later" s__law_later) (h__law_is_list : Has K mg "_law_is_list" s__law_is_list) (h__law_drawn : Has K mg "_law_drawn" s__law_drawn) (h__law_split : Has K mg "_law_split" s__law_split) (h__law_grown_right : Has K mg "_law_grown_right" s__law_grown_right) (h__law_right : Has K mg "_law_right" s__law_right) (h_law : Has K mg "law" s_law)  (e_Impossible : ErrS K mg "Impossible" a_Impossible [.type "ValueError", .type "Exception", .type "BaseException", .type "object"]) (xm_Impossible : PySem.W.exmOne K (.ref a_Impossible) (.ref a_Impossible) = some true)  (z_abs : mg "abs" = none) (z_bool : mg "bool" = none) (z_enumerate : mg "enumerate" = none) (z_int : mg "int" = none) (z_isinstance : mg "isinstance" = none) (z_len : mg "len" = none) (z_list : mg "list" = none) (z_max : mg "max" = none) (z_min : mg "min" = none) (z_range : mg "range" = none) (z_sorted : mg "sorted" = none) (z_sum : mg "sum" = none) (z_tuple : mg "tuple" = none) (z_zip : mg "zip" = none) (c_MOST_ITEMS : ∃ t, mg "MOST_ITEMS" = some (.int 60 t)) :
    ∃ fd : FuncData, (∀ (s : Shared) (v : Value), BindsTo s fd ⟨[v], []⟩ [("script", v)]) ∧ ∀ base : Heap, K.In base → base.Ns mainGlobals mg → FnG P w K mg base (L2.CX P w) 11 fa fd ["script"] (Kt.spD K 1 g_law) := by
  have h_law' := h_law
  obtain ⟨f, fd, F, m⟩ := h_law'
  have e : f = fa := by
    rw [hfa] at m
    cases m
    rfl
  subst e
  refine ⟨fd, fun s v => ?_, fun base _ _ => ?_⟩
  · obtain ⟨oc, od, kV, doc, pm, an, cdv, ct, osl, rfl, lk, hcd⟩ := F.ex
    exact .of_eq (b_law kV doc pm an cdv ct [v] rfl)
  · obtain ⟨f', fd', F', hF, m'⟩ := (all_ok (P := P) (w := w) (base := base) h_fore_part h_back_part h_rest_at h_aim_at h_lost_at h_moved h_is_number h_is_number_from h_is_pair h_check_wheel h_is_item h_check_drive h_check_number_from h_check_pull_from h_check_pull h_is_beginning h_check_beginning h_summed h_check_play h_marks_of h_play h_slips h_is_kept h_check_slack h_rows_over h_least_change h_weakest h_slack h_brought_together h_late_drive h_is_late h_shows_late h__law_tank h__law_tap h__law_disc h__law_least h__law_ahead h__law_items h__law_slips h__law_later h__law_is_list h__law_drawn h__law_split h__law_grown_right h__law_right h_law  e_Impossible xm_Impossible  z_abs z_bool z_enumerate z_int z_isinstance z_len z_list z_max z_min z_range z_sorted z_sum z_tuple z_zip c_MOST_ITEMS).ex
    have e' : f' = f := by
      rw [m] at m'
      cases m'
      rfl
    subst e'
    rw [fun_uniq F F']
    exact hF
end Lw
open PySem PySem.W PyProof.Rows
set_option maxHeartbeats 0 in
theorem PySem.Challenge.cw_poleslips_k38_slack_of_great_numbers_holds : PySem.Challenge.rw_poleslips_k38_slack_of_great_numbers.Holds := by
  w_on; o_law; k_head; (case hw => w_witness2)
  k_fill
  refine Kt.walk_GB (l := PySem.Challenge.rw_poleslips_k38_slack_of_great_numbers) (n := 63) (k := 11) (x := "script") (ct := fun w => L2.CX (PySem.Challenge.rw_poleslips_k38_slack_of_great_numbers).prog w) (sp := fun w => Kt.spD _ 1 Lw.g_law) rfl (by decide) rfl ⟨rfl, by decide, by decide⟩ (fun w h Y => PySem.W.kIn_of Y) ?F (fun _ _ a ns hl hb _ hS => Lw.wish_ok hl hb hS) (fun _ _ _ _ _ h => by
    obtain ⟨_, _, _, _, _, _, _, _, _, _, _, _, hE⟩ := h
    exact hE)
  case F =>
    intro w mg fa h KX G hmg
    refine' Lw.law_fd hmg ?h_fore_part ?h_back_part ?h_rest_at ?h_aim_at ?h_lost_at ?h_moved ?h_is_number ?h_is_number_from ?h_is_pair ?h_check_wheel ?h_is_item ?h_check_drive ?h_check_number_from ?h_check_pull_from ?h_check_pull ?h_is_beginning ?h_check_beginning ?h_summed ?h_check_play ?h_marks_of ?h_play ?h_slips ?h_is_kept ?h_check_slack ?h_rows_over ?h_least_change ?h_weakest ?h_slack ?h_brought_together ?h_late_drive ?h_is_late ?h_shows_late ?h__law_tank ?h__law_tap ?h__law_disc ?h__law_least ?h__law_ahead ?h__law_items ?h__law_slips ?h__law_later ?h__law_is_list ?h__law_drawn ?h__law_split ?h__law_grown_right ?h__law_right ?h_law  ?e_Impossible ?xm_Impossible  ?z_abs ?z_bool ?z_enumerate ?z_int ?z_isinstance ?z_len ?z_list ?z_max ?z_min ?z_range ?z_sorted ?z_sum ?z_tuple ?z_zip ?c_MOST_ITEMS
    case e_Impossible =>
      refine' Kt.errS_mk KX G ?aC ?kC ?xC ?bC ?tC
      (case aC => k_is); (case kC => k_is); (case xC => k_exc); (case bC => k_is); (case tC => k_is)
    case xm_Impossible =>
      refine' Kt.exm_self ?eC ?iC ?tC ?sC
      (case eC => k_is); (case iC => k_is); (case tC => k_is); (case sC => first | rfl | k_is)
    case h_fore_part =>
      refine' Lw.has_mk KX G ?a ?l ?c ?k
      (case a => k_is); (case l => k_is); (case c => k_is); (case k => k_is)
    case h_back_part =>
      refine' Lw.has_mk KX G ?a ?l ?c ?k
      (case a => k_is); (case l => k_is); (case c => k_is); (case k => k_is)
    case h_rest_at =>
      refine' Lw.has_mk KX G ?a ?l ?c ?k
      (case a => k_is); (case l => k_is); (case c => k_is); (case k => k_is)
    case h_aim_at =>
      refine' Lw.has_mk KX G ?a ?l ?c ?k
      (case a => k_is); (case l => k_is); (case c => k_is); (case k => k_is)
    case h_lost_at =>
      refine' Lw.has_mk KX G ?a ?l ?c ?k
      (case a => k_is); (case l => k_is); (case c => k_is); (case k => k_is)
    case h_moved =>
      refine' Lw.has_mk KX G ?a ?l ?c ?k
      (case a => k_is); (case l => k_is); (case c => k_is); (case k => k_is)
    case h_is_number =>
      refine' Lw.has_mk KX G ?a ?l ?c ?k
      (case a => k_is); (case l => k_is); (case c => k_is); (case k => k_is)
    case h_is_number_from =>
      refine' Lw.has_mk KX G ?a ?l ?c ?k
      (case a => k_is); (case l => k_is); (case c => k_is); (case k => k_is)
    case h_is_pair =>
      refine' Lw.has_mk KX G ?a ?l ?c ?k
      (case a => k_is); (case l => k_is); (case c => k_is); (case k => k_is)
    case h_check_wheel =>
      refine' Lw.has_mk KX G ?a ?l ?c ?k
      (case a => k_is); (case l => k_is); (case c => k_is); (case k => k_is)
    case h_is_item =>
      refine' Lw.has_mk KX G ?a ?l ?c ?k
      (case a => k_is); (case l => k_is); (case c => k_is); (case k => k_is)
    case h_check_drive =>
      refine' Lw.hasB_mk KX G ?a ?l ?t ?c ?k
      (case a => k_is); (case l => k_is); (case t => k_is); (case c => k_is); (case k => k_is)
    case h_check_number_from =>
      refine' Lw.has_mk KX G ?a ?l ?c ?k
      (case a => k_is); (case l => k_is); (case c => k_is); (case k => k_is)
    case h_check_pull_from =>
      refine' Lw.has_mk KX G ?a ?l ?c ?k
      (case a => k_is); (case l => k_is); (case c => k_is); (case k => k_is)
    case h_check_pull =>
      refine' Lw.has_mk KX G ?a ?l ?c ?k
      (case a => k_is); (case l => k_is); (case c => k_is); (case k => k_is)
    case h_is_beginning =>
      refine' Lw.has_mk KX G ?a ?l ?c ?k
      (case a => k_is); (case l => k_is); (case c => k_is); (case k => k_is)
    case h_check_beginning =>
      refine' Lw.has_mk KX G ?a ?l ?c ?k
      (case a => k_is); (case l => k_is); (case c => k_is); (case k => k_is)
    case h_summed =>
      refine' Lw.has_mk KX G ?a ?l ?c ?k
      (case a => k_is); (case l => k_is); (case c => k_is); (case k => k_is)
    case h_check_play =>
      refine' Lw.has_mk KX G ?a ?l ?c ?k
      (case a => k_is); (case l => k_is); (case c => k_is); (case k => k_is)
    case h_marks_of =>
      refine' Lw.has_mk KX G ?a ?l ?c ?k
      (case a => k_is); (case l => k_is); (case c => k_is); (case k => k_is)
    case h_play =>
      refine' Lw.has_mk KX G ?a ?l ?c ?k
      (case a => k_is); (case l => k_is); (case c => k_is); (case k => k_is)
    case h_slips =>
      refine' Lw.has_mk KX G ?a ?l ?c ?k
      (case a => k_is); (case l => k_is); (case c => k_is); (case k => k_is)
    case h_is_kept =>
      refine' Lw.has_mk KX G ?a ?l ?c ?k
      (case a => k_is); (case l => k_is); (case c => k_is); (case k => k_is)
    case h_check_slack =>
      refine' Lw.has_mk KX G ?a ?l ?c ?k
      (case a => k_is); (case l => k_is); (case c => k_is); (case k => k_is)
    case h_rows_over =>
      refine' Lw.has_mk KX G ?a ?l ?c ?k
      (case a => k_is); (case l => k_is); (case c => k_is); (case k => k_is)
    case h_least_change =>
      refine' Lw.has_mk KX G ?a ?l ?c ?k
      (case a => k_is); (case l => k_is); (case c => k_is); (case k => k_is)
    case h_weakest =>
      refine' Lw.has_mk KX G ?a ?l ?c ?k
      (case a => k_is); (case l => k_is); (case c => k_is); (case k => k_is)
    case h_slack =>
      refine' Lw.has_mk KX G ?a ?l ?c ?k
      (case a => k_is); (case l => k_is); (case c => k_is); (case k => k_is)
    case h_brought_together =>
      refine' Lw.has_mk KX G ?a ?l ?c ?k
      (case a => k_is); (case l => k_is); (case c => k_is); (case k => k_is)
    case h_late_drive =>
      refine' Lw.has_mk KX G ?a ?l ?c ?k
      (case a => k_is); (case l => k_is); (case c => k_is); (case k => k_is)
    case h_is_late =>
      refine' Lw.has_mk KX G ?a ?l ?c ?k
      (case a => k_is); (case l => k_is); (case c => k_is); (case k => k_is)
    case h_shows_late =>
      refine' Lw.has_mk KX G ?a ?l ?c ?k
      (case a => k_is); (case l => k_is); (case c => k_is); (case k => k_is)
    case h__law_tank =>
      refine' Lw.has_mk KX G ?a ?l ?c ?k
      (case a => k_is); (case l => k_is); (case c => k_is); (case k => k_is)
    case h__law_tap =>
      refine' Lw.has_mk KX G ?a ?l ?c ?k
      (case a => k_is); (case l => k_is); (case c => k_is); (case k => k_is)
    case h__law_disc =>
      refine' Lw.has_mk KX G ?a ?l ?c ?k
      (case a => k_is); (case l => k_is); (case c => k_is); (case k => k_is)
    case h__law_least =>
      refine' Lw.has_mk KX G ?a ?l ?c ?k
      (case a => k_is); (case l => k_is); (case c => k_is); (case k => k_is)
    case h__law_ahead =>
      refine' Lw.has_mk KX G ?a ?l ?c ?k
      (case a => k_is); (case l => k_is); (case c => k_is); (case k => k_is)
    case h__law_items =>
      refine' Lw.has_mk KX G ?a ?l ?c ?k
      (case a => k_is); (case l => k_is); (case c => k_is); (case k => k_is)
    case h__law_slips =>
      refine' Lw.has_mk KX G ?a ?l ?c ?k
      (case a => k_is); (case l => k_is); (case c => k_is); (case k => k_is)
    case h__law_later =>
      refine' Lw.has_mk KX G ?a ?l ?c ?k
      (case a => k_is); (case l => k_is); (case c => k_is); (case k => k_is)
    case h__law_is_list =>
      refine' Lw.has_mk KX G ?a ?l ?c ?k
      (case a => k_is); (case l => k_is); (case c => k_is); (case k => k_is)
    case h__law_drawn =>
      refine' Lw.has_mk KX G ?a ?l ?c ?k
      (case a => k_is); (case l => k_is); (case c => k_is); (case k => k_is)
    case h__law_split =>
      refine' Lw.has_mk KX G ?a ?l ?c ?k
      (case a => k_is); (case l => k_is); (case c => k_is); (case k => k_is)
    case h__law_grown_right =>
      refine' Lw.has_mk KX G ?a ?l ?c ?k
      (case a => k_is); (case l => k_is); (case c => k_is); (case k => k_is)
    case h__law_right =>
      refine' Lw.has_mk KX G ?a ?l ?c ?k
      (case a => k_is); (case l => k_is); (case c => k_is); (case k => k_is)
    case h_law =>
      refine' Lw.has_mk KX G ?a ?l ?c ?k
      (case a => k_is); (case l => k_is); (case c => k_is); (case k => k_is)
    case z_abs =>
      refine' PySem.W.mg_none_of KX G ?a
      (case a => k_is)
    case z_bool =>
      refine' PySem.W.mg_none_of KX G ?a
      (case a => k_is)
    case z_enumerate =>
      refine' PySem.W.mg_none_of KX G ?a
      (case a => k_is)
    case z_int =>
      refine' PySem.W.mg_none_of KX G ?a
      (case a => k_is)
    case z_isinstance =>
      refine' PySem.W.mg_none_of KX G ?a
      (case a => k_is)
    case z_len =>
      refine' PySem.W.mg_none_of KX G ?a
      (case a => k_is)
    case z_list =>
      refine' PySem.W.mg_none_of KX G ?a
      (case a => k_is)
    case z_max =>
      refine' PySem.W.mg_none_of KX G ?a
      (case a => k_is)
    case z_min =>
      refine' PySem.W.mg_none_of KX G ?a
      (case a => k_is)
    case z_range =>
      refine' PySem.W.mg_none_of KX G ?a
      (case a => k_is)
    case z_sorted =>
      refine' PySem.W.mg_none_of KX G ?a
      (case a => k_is)
    case z_sum =>
      refine' PySem.W.mg_none_of KX G ?a
      (case a => k_is)
    case z_tuple =>
      refine' PySem.W.mg_none_of KX G ?a
      (case a => k_is)
    case z_zip =>
      refine' PySem.W.mg_none_of KX G ?a
      (case a => k_is)
    case c_MOST_ITEMS =>
      refine' (fun (e : mg "MOST_ITEMS" = some ?v_MOST_ITEMS) => (?b_MOST_ITEMS : ∃ t, mg "MOST_ITEMS" = some (.int 60 t))) (PySem.W.mg_of KX G ?a_MOST_ITEMS)
      (case a_MOST_ITEMS => k_is)
      (case b_MOST_ITEMS => exact ⟨_, e⟩)
