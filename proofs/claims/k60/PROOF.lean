import PyProof.Rows.All
import Wide.All
import OpenK.AllK
import Wide.FinOn
import HandS.ForMost
import HandS.IsInst
import HandS.Zip
import HandS.Walk
import HandS.ExcInit
import HandS.Lambda
import KE.GoesEnum
import KE.SortData
import HandS.MakeKwOnly
import HandS.Property
import HandS.ClsMeth
import HandS.FStr
import HandS.SlotsOwn
import HandS.Style
import HandS.Conv
import HandS.TupAny
import HandS.SetFor
import HandS.Deep
import HandS.Strs
import HandS.ExcIs
import HandS.ExcField
import HandS.ExcValue
import KE.KExcIs
import HandS.WordsExc
import HandS.HotCalls
import KE.KTryMore
import HandS.EndTab
import KE.KDflt
import HandS.Nested
import HandS.EndOwn
import KE.KRevSl
import HandS.Star
import HandS.TupMul
import HandS.NoneIn
import KE.DataMinMax
import KE.DataEq
import Flt.Ops
import HandS.DictComp
import HandS.Iter
import HandS.RaiseMore
import KE.IntTextLaws
import KE.KUnpackStar
import KE.GoesEnumKw
import HandS.SortKw
import KE.LtData
import PySem.Challenge.RW_partfirsts_k60_texts_of_readers_refused
set_option Elab.async false
set_option linter.all false
set_option maxRecDepth 100000
set_option maxHeartbeats 4000000
/-! data without a heap: D; what bears it: Rep; a judgement that speaks of data alone: Ev, Do -/
namespace Pf
open PySem L2

/-- data -/
inductive D where
  | non | bl (b : Bool) | int (i : Int) | str (x : Str)
  | lst (ds : List D) | tup (ds : List D)
  | dic (kvs : List (Key × D))
  | ins (C : Addr) (fs : List (Str × D))
  | ty (n : String) | adr (a : Addr)
  | exc (C : Addr) (fs : List (Str × D))
  | fn (f : Addr) (hs : List (Addr × HO)) (ws : List V) (cs : List D)

/-- the heap without what is hidden -/
def hd (M : Addr → Bool) (H : Hp) : Hp := fun a => if M a = true then none else H a
theorem hd_of {M : Addr → Bool} {H : Hp} {a : Addr} {o : HO} (h : hd M H a = some o) : M a = false ∧ H a = some o := by
  unfold hd at h
  cases e : M a with
  | true => rw [e, if_pos rfl] at h; cases h
  | false => rw [e, if_neg Bool.false_ne_true] at h; exact ⟨rfl, h⟩
theorem hd_at {M : Addr → Bool} {H : Hp} {a : Addr} {o : HO} (m : M a = false) (h : H a = some o) : hd M H a = some o := by
  unfold hd
  rw [m, if_neg Bool.false_ne_true]
  exact h
theorem same_hd (M : Addr → Bool) (H : Hp) : Same (hd M H) H := fun _ _ h => (hd_of h).2
theorem same_hd_le {M N : Addr → Bool} {H : Hp} (h : ∀ a, M a = true → N a = true) : Same (hd N H) (hd M H) := fun a o e => by
  obtain ⟨h1, h2⟩ := hd_of e
  refine hd_at ?_ h2
  cases q : M a with
  | true => rw [h a q] at h1; cases h1
  | false => rfl
theorem same_tup {K : PySem.W.Frag} {H H' : Hp} {a : Addr} {xs : List V} (e : Same H H') (h : SqT K H a xs) : SqT K H' a xs := by
  rcases h with (h | ⟨o, h⟩) | h
  · exact .inl (.inl (e _ _ h))
  · exact .inl (.inr ⟨o, e _ _ h⟩)
  · exact .inr h
theorem same_new {H : Hp} {p : Addr} {o : HO} (h : H p = none) : Same H (upd H p o) := fun a u e => by
  rw [upd_ne (ne_of_none e h)]
  exact e

mutual
inductive Rep (K : PySem.W.Frag) (H : Hp) : V → D → Prop
  | non : Rep K H .non .non
  | bl (b : Bool) : Rep K H (.bl b) (.bl b)
  | int (i : Int) : Rep K H (.int i) (.int i)
  | str (x : Str) : Rep K H (.str x) (.str x)
  | lst {a : Addr} {xs : List V} {ds : List D} : H a = some (.lst xs) → RepL K H xs ds → Rep K H (.ref a) (.lst ds)
  | tup {a : Addr} {xs : List V} {ds : List D} : SqT K H a xs → RepL K H xs ds → Rep K H (.ref a) (.tup ds)
  | dic {a : Addr} {kvs : List (Key × V)} {ds : List (Key × D)} : H a = some (.dK kvs) → RepK K H kvs ds → Rep K H (.ref a) (.dic ds)
  | ins {a C dx : Addr} {fs : List (Str × V)} {ds : List (Str × D)} : H a = some (.ins C dx fs) → RepF K H fs ds → Rep K H (.ref a) (.ins C ds)
  | ty (n : String) : Rep K H (.ty n) (.ty n)
  | adr (a : Addr) : Rep K H (.ref a) (.adr a)
  | exc {a C dx : Addr} {fs : List (Str × V)} {ds : List (Str × D)} : H a = some (exo a C (some dx)) → H dx = some (exd dx fs) → RepF K H fs ds → Rep K H (.ref a) (.exc C ds)
  | fn {f : Addr} {hs : List (Addr × HO)} {ws : List V} {cs : List D} : (∀ p ∈ hs, H p.1 = some p.2 ∧ ∀ o u, p.2 ≠ .frz o u) → RepL K H ws cs → Rep K H (.ref f) (.fn f hs ws cs)
inductive RepL (K : PySem.W.Frag) (H : Hp) : List V → List D → Prop
  | nil : RepL K H [] []
  | cons {v : V} {vs : List V} {d : D} {ds : List D} : Rep K H v d → RepL K H vs ds → RepL K H (v :: vs) (d :: ds)
inductive RepK (K : PySem.W.Frag) (H : Hp) : List (Key × V) → List (Key × D) → Prop
  | nil : RepK K H [] []
  | cons {k : Key} {v : V} {vs : List (Key × V)} {d : D} {ds : List (Key × D)} : Rep K H v d → RepK K H vs ds → RepK K H ((k, v) :: vs) ((k, d) :: ds)
inductive RepF (K : PySem.W.Frag) (H : Hp) : List (Str × V) → List (Str × D) → Prop
  | nil : RepF K H [] []
  | cons {k : Str} {v : V} {vs : List (Str × V)} {d : D} {ds : List (Str × D)} : Rep K H v d → RepF K H vs ds → RepF K H ((k, v) :: vs) ((k, d) :: ds)
end
section
variable {K : PySem.W.Frag} {H H' : Hp}
mutual
theorem Rep.mono (e : Same H H') : ∀ {v : V} {d : D}, Rep K H v d → Rep K H' v d
  | _, _, .non => .non
  | _, _, .bl b => .bl b
  | _, _, .int i => .int i
  | _, _, .str x => .str x
  | _, _, .lst h r => .lst (e _ _ h) (RepL.mono e r)
  | _, _, .tup h r => .tup (same_tup e h) (RepL.mono e r)
  | _, _, .dic h r => .dic (e _ _ h) (RepK.mono e r)
  | _, _, .ins h r => .ins (e _ _ h) (RepF.mono e r)
  | _, _, .ty n => .ty n
  | _, _, .adr a => .adr a
  | _, _, .exc h g r => .exc (e _ _ h) (e _ _ g) (RepF.mono e r)
  | _, _, .fn h r => .fn (fun p hp => ⟨e _ _ (h p hp).1, (h p hp).2⟩) (RepL.mono e r)
theorem RepL.mono (e : Same H H') : ∀ {v : List V} {d : List D}, RepL K H v d → RepL K H' v d
  | _, _, .nil => .nil
  | _, _, .cons h r => .cons (Rep.mono e h) (RepL.mono e r)
theorem RepK.mono (e : Same H H') : ∀ {v : List (Key × V)} {d : List (Key × D)}, RepK K H v d → RepK K H' v d
  | _, _, .nil => .nil
  | _, _, .cons h r => .cons (Rep.mono e h) (RepK.mono e r)
theorem RepF.mono (e : Same H H') : ∀ {v : List (Str × V)} {d : List (Str × D)}, RepF K H v d → RepF K H' v d
  | _, _, .nil => .nil
  | _, _, .cons h r => .cons (Rep.mono e h) (RepF.mono e r)
end
theorem RepL.length : ∀ {vs : List V} {ds : List D}, RepL K H vs ds → vs.length = ds.length
  | _, _, .nil => rfl
  | _, _, .cons _ r => congrArg Nat.succ (RepL.length r)
theorem RepL.get : ∀ {vs : List V} {ds : List D} {i : Nat} {d : D}, RepL K H vs ds → ds[i]? = some d → ∃ v, vs[i]? = some v ∧ Rep K H v d
  | _, _, _, _, .nil, e => by simp at e
  | _, _, 0, _, .cons h _, e => by simp at e; subst e; exact ⟨_, rfl, h⟩
  | _, _, i + 1, d, .cons _ r, e => by
    obtain ⟨v, h1, h2⟩ := RepL.get (i := i) (d := d) r (by simpa using e)
    exact ⟨v, by simpa using h1, h2⟩
theorem RepL.getV : ∀ {vs : List V} {ds : List D} {i : Nat} {v : V}, RepL K H vs ds → vs[i]? = some v → ∃ d, ds[i]? = some d ∧ Rep K H v d
  | _, _, _, _, .nil, e => by simp at e
  | _, _, 0, _, .cons h _, e => by simp at e; subst e; exact ⟨_, rfl, h⟩
  | _, _, i + 1, d, .cons _ r, e => by
    obtain ⟨v, h1, h2⟩ := RepL.getV (i := i) (v := d) r (by simpa using e)
    exact ⟨v, by simpa using h1, h2⟩
theorem RepL.append : ∀ {vs ws : List V} {ds es : List D}, RepL K H vs ds → RepL K H ws es → RepL K H (vs ++ ws) (ds ++ es)
  | _, _, _, _, .nil, s => s
  | _, _, _, _, .cons h r, s => .cons h (RepL.append r s)
theorem RepL.one {v : V} {d : D} (h : Rep K H v d) : RepL K H [v] [d] := .cons h .nil
theorem RepL.drop : ∀ {vs : List V} {ds : List D} (n : Nat), RepL K H vs ds → RepL K H (vs.drop n) (ds.drop n)
  | _, _, 0, r => r
  | _, _, _ + 1, .nil => .nil
  | _, _, n + 1, .cons _ r => RepL.drop n r
theorem RepL.take : ∀ {vs : List V} {ds : List D} (n : Nat), RepL K H vs ds → RepL K H (vs.take n) (ds.take n)
  | _, _, 0, _ => .nil
  | _, _, _ + 1, .nil => .nil
  | _, _, n + 1, .cons h r => .cons h (RepL.take n r)
theorem RepK.look : ∀ {vs : List (Key × V)} {ds : List (Key × D)}, RepK K H vs ds → vs.map (·.1) = ds.map (·.1)
  | _, _, .nil => rfl
  | _, _, .cons _ r => by simp only [List.map_cons, RepK.look r]
theorem RepF.get : ∀ {vs : List (Str × V)} {ds : List (Str × D)} {f : Str} {d : D}, RepF K H vs ds → ds.lookup f = some d → ∃ v, vs.lookup f = some v ∧ Rep K H v d
  | _, _, _, _, .nil, e => by simp at e
  | _, _, f, d, .cons (k := k) h r, e => by
    rw [List.lookup_cons] at e ⊢
    cases q : f == k with
    | true =>
      rw [q] at e
      cases e
      exact ⟨_, rfl, h⟩
    | false =>
      rw [q] at e
      exact RepF.get r e
theorem RepF.none : ∀ {vs : List (Str × V)} {ds : List (Str × D)} {f : Str}, RepF K H vs ds → ds.lookup f = Option.none → vs.lookup f = Option.none
  | _, _, _, .nil, e => by simp
  | _, _, f, .cons (k := k) h r, e => by
    rw [List.lookup_cons] at e ⊢
    cases q : f == k with
    | true =>
      rw [q] at e
      cases e
    | false =>
      rw [q] at e
      exact RepF.none r e
end

/-! an object of one's own: a list, a dict, an instance -/
inductive OD where
  | lst (ds : List D) | dic (kvs : List (Key × D)) | ins (C : Addr) (fs : List (Str × D))
inductive RepO (K : PySem.W.Frag) (H : Hp) : HO → OD → Prop
  | lst {xs : List V} {ds : List D} : RepL K H xs ds → RepO K H (.lst xs) (.lst ds)
  | dic {kvs : List (Key × V)} {ds : List (Key × D)} : RepK K H kvs ds → RepO K H (.dK kvs) (.dic ds)
  | ins {C dx : Addr} {fs : List (Str × V)} {ds : List (Str × D)} : RepF K H fs ds → RepO K H (.ins C dx fs) (.ins C ds)
theorem RepO.mono {K : PySem.W.Frag} {H H' : Hp} (e : Same H H') {o : HO} {d : OD} (h : RepO K H o d) : RepO K H' o d := by
  cases h with
  | lst r => exact .lst (r.mono e)
  | dic r => exact .dic (r.mono e)
  | ins r => exact .ins (r.mono e)
/-- as data -/
def OD.d : OD → D
  | .lst ds => .lst ds | .dic kvs => .dic kvs | .ins C fs => .ins C fs
theorem RepO.rep {K : PySem.W.Frag} {H : Hp} {a : Addr} {o : HO} {d : OD} (h : RepO K H o d) (e : H a = some o) : Rep K H (.ref a) d.d := by
  cases h with
  | lst r => exact .lst e r
  | dic r => exact .dic e r
  | ins r => exact .ins e r

/-! ### the bag of the draws -/
def BagAt (H : Hp) (b c : Addr) : Prop := ∃ (ns : List Int) (i : Nat) (z s t : Int),
  H b = some (.lst [.ref c, .int (i : Int), .int z, .int s, .int t]) ∧ c ≠ b ∧ H c = some (.lst (ns.map V.int)) ∧ i ≤ ns.length ∧ ns.length ≤ 63 ∧ 0 ≤ z ∧ 0 ≤ s ∧ s < 2147483587 ∧ 0 ≤ t
theorem BagAt.mono {H H' : Hp} {b c : Addr} (e : Same H H') : BagAt H b c → BagAt H' b c := fun ⟨ns, i, z, s, t, h1, h2, h3, h4⟩ =>
  ⟨ns, i, z, s, t, e _ _ h1, h2, e _ _ h3, h4⟩
theorem BagAt.at {H : Hp} {b c : Addr} (h : BagAt H b c) : ∃ o, H b = some o := by
  obtain ⟨ns, i, z, s, t, h1, _⟩ := h
  exact ⟨_, h1⟩

/-! ### the frame of a def -/
structure Fm where
  K : PySem.W.Frag
  B : Option Addr
  M0 : Addr → Bool
  H0 : Hp
  E : XK
  C0 : Addr
  T : List (Addr × Str)
/-- what may change: the bag, the tables of code objects -/
def Fm.mv (F : Fm) (a : Addr) : Prop := F.B = some a ∨ ∃ p ∈ F.T, p.1 = a
theorem mv_none {F : Fm} (hB : F.B = none) (hT : F.T = []) (a : Addr) : ¬ F.mv a := fun z => by
  rcases z with z | z
  · rw [hB] at z; cases z
  · obtain ⟨p, z, _⟩ := z
    rw [hT] at z; cases z
theorem mv_bag {F : Fm} {b : Addr} (hB : F.B = some b) (hT : F.T = []) {a : Addr} (h : a ≠ b) : ¬ F.mv a := fun z => by
  rcases z with z | z
  · rw [hB] at z; exact h (Option.some.inj z).symm
  · obtain ⟨p, z, _⟩ := z
    rw [hT] at z; cases z
/-- all but the bag is kept -/
def StepB (P : Addr → Prop) (H H' : Hp) : Prop := ∀ a o, ¬ P a → H a = some o → H' a = some o
theorem StepB.refl (B : Addr → Prop) (H : Hp) : StepB B H H := fun _ _ _ h => h
theorem StepB.trans {B : Addr → Prop} {H H1 H2 : Hp} (a : StepB B H H1) (b : StepB B H1 H2) : StepB B H H2 := fun c o n h => b c o n (a c o n h)
theorem StepB.of {B : Addr → Prop} {H H' : Hp} (e : Same H H') : StepB B H H' := fun a o _ h => e a o h
/-- what a slot bears -/
inductive SD where
  | un | dat (d : D) | own (p : Addr) (ds : OD) | bag | sq (ds : List D) | sl (ds : List D) | oll (p : Addr) (qs : List (Addr × List D))
/-- a hidden list, older than the frame, of hidden lists -/
def LL (F : Fm) (M : Addr → Bool) (H : Hp) (p : Addr) (qs : List (Addr × List D)) : Prop := (∀ a ∈ p :: qs.map Prod.fst, M a = true ∧ ¬ F.mv a ∧ F.H0 a ≠ none) ∧ H p = some (.lst (qs.map fun q => .ref q.1)) ∧ ∀ q ∈ qs, ∃ us, H q.1 = some (.lst us) ∧ RepL F.K (hd M H) us q.2
theorem LL.mono {F : Fm} {M M' : Addr → Bool} {H H' : Hp} {p : Addr} {qs : List (Addr × List D)} (h : LL F M H p qs) (hm : ∀ a, M a = true → F.H0 a ≠ none → M' a = true) (hk : ∀ a o, M a = true → ¬ F.mv a → F.H0 a ≠ none → H a = some o → H' a = some o) (s : Same (hd M H) (hd M' H')) : LL F M' H' p qs := by
  obtain ⟨h1, h2, h3⟩ := h
  refine ⟨fun a ha => ⟨hm a (h1 a ha).1 (h1 a ha).2.2, (h1 a ha).2⟩, hk p _ (h1 p (by simp)).1 (h1 p (by simp)).2.1 (h1 p (by simp)).2.2 h2, fun q hq => ?_⟩
  obtain ⟨us, h4, h5⟩ := h3 q hq
  have hm := h1 q.1 (List.mem_cons_of_mem _ (List.mem_map_of_mem hq))
  exact ⟨us, hk q.1 _ hm.1 hm.2.1 hm.2.2 h4, h5.mono s⟩
def SlotOk (F : Fm) (M : Addr → Bool) (H : Hp) (s : Option V) : SD → Prop
  | .un => True
  | .dat d => ∃ v, s = some v ∧ Rep F.K (hd M H) v d
  | .own p ds => s = some (.ref p) ∧ M p = true ∧ ∃ vs, H p = some vs ∧ RepO F.K (hd M H) vs ds
  | .bag => ∃ b, F.B = some b ∧ s = some (.ref b)
  | .sq ds => ∃ p vs, s = some (.ref p) ∧ ¬ F.mv p ∧ (SqL F.K F.H0 p vs ∨ SqT F.K F.H0 p vs) ∧ RepL F.K (hd M H) vs ds
  | .sl ds => ∃ p vs, s = some (.ref p) ∧ ¬ F.mv p ∧ SqL F.K F.H0 p vs ∧ RepL F.K (hd M H) vs ds
  | .oll p qs => s = some (.ref p) ∧ LL F M H p qs
/-- nothing hidden is told by what is true of its object -/
def NX (M : Addr → Bool) (H : Hp) : Prop := ∀ a φ, M a = true → H a ≠ some (.ext φ)
structure Ctx (F : Fm) (M : Addr → Bool) (σ : L2.St) (H : Hp) (δ : List SD) : Prop where
  al : ∀ a, M a = true → ∃ o, H a = some o
  al0 : ∀ a, F.M0 a = true → ∃ o, F.H0 a = some o
  m0 : ∀ a, F.M0 a = true → M a = true
  fr : StepB F.mv F.H0 H
  bg : (∀ b, F.B = some b → F.M0 b = true ∧ BagAt H b F.C0 ∧ ∃ o, F.H0 F.C0 = some o) ∧ ∀ p ∈ F.T, F.M0 p.1 = true ∧ LamX.TabS H p.1 p.2 ∧ NX M H
  ln : σ.length = δ.length
  sl : ∀ (i : Nat) (x : SD), δ[i]? = some x → ∃ s, σ[i]? = some s ∧ SlotOk F M H s x
  dj : ∀ (i j : Nat) (p : Addr) (ds es : OD), δ[i]? = some (.own p ds) → δ[j]? = some (.own p es) → i = j
  oh : ∀ (i : Nat) (p : Addr) (ds : OD), δ[i]? = some (.own p ds) → F.H0 p = none ∧ ¬ F.mv p
section
variable {F : Fm} {M M' : Addr → Bool} {σ : L2.St} {H H' : Hp} {δ : List SD}
theorem hd_step (c : Ctx F M σ H δ) (e : StepB F.mv H H') : Same (hd M H) (hd M H') := fun a o h => by
  obtain ⟨m, h1⟩ := hd_of h
  refine hd_at m (e a o (fun z => ?_) h1)
  have q := c.m0 a (z.elim (fun z => (c.bg.1 a z).1) fun ⟨p, z, e⟩ => e ▸ (c.bg.2 p z).1)
  rw [m] at q
  cases q
theorem SlotOk.step (c : Ctx F M σ H δ) (e : StepB F.mv H H') {s : Option V} {x : SD} (hx : ∀ p ds, x = .own p ds → ¬ F.mv p) (h : SlotOk F M H s x) : SlotOk F M H' s x := by
  cases x with
  | un => trivial
  | dat d =>
    obtain ⟨v, h1, h2⟩ := h
    exact ⟨v, h1, h2.mono (hd_step c e)⟩
  | own p ds =>
    obtain ⟨h1, h2, vs, h3, h4⟩ := h
    exact ⟨h1, h2, vs, e p _ (hx p ds rfl) h3, h4.mono (hd_step c e)⟩
  | bag => exact h
  | sq ds =>
    obtain ⟨p, vs, h1, h2, h3, h4⟩ := h
    exact ⟨p, vs, h1, h2, h3, h4.mono (hd_step c e)⟩
  | sl ds =>
    obtain ⟨p, vs, h1, h2, h3, h4⟩ := h
    exact ⟨p, vs, h1, h2, h3, h4.mono (hd_step c e)⟩
  | oll p qs => exact ⟨h.1, h.2.mono (fun _ m _ => m) (fun a o _ nm _ h => e a o nm h) (hd_step c e)⟩
/-- all but the bag is kept, the bag stays a bag -/
theorem Ctx.stepG (c : Ctx F M σ H δ) (e : StepB F.mv H H') (bg : (∀ b, F.B = some b → F.M0 b = true ∧ BagAt H' b F.C0 ∧ ∃ o, F.H0 F.C0 = some o) ∧ ∀ p ∈ F.T, F.M0 p.1 = true ∧ LamX.TabS H' p.1 p.2 ∧ NX M H') : Ctx F M σ H' δ := by
  refine ⟨fun a m => ?_, c.al0, c.m0, c.fr.trans e, bg, c.ln, fun i x hx => ?_, c.dj, c.oh⟩
  · by_cases z : F.mv a
    · rcases z with z | z
      · obtain ⟨_, h2, _⟩ := bg.1 a z
        exact h2.at
      · obtain ⟨p, z, e⟩ := z
        obtain ⟨_, ⟨ps, h2, _⟩, _⟩ := bg.2 p z
        exact ⟨_, e ▸ h2⟩
    · obtain ⟨o, h⟩ := c.al a m
      exact ⟨o, e a o z h⟩
  · obtain ⟨s, h1, h2⟩ := c.sl i x hx
    refine ⟨s, h1, h2.step c e fun p ds z => ?_⟩
    subst z
    exact (c.oh i p ds hx).2
theorem tabS_step {H H' : Hp} {P : Addr} {q : Str} (t : LamX.TabS H P q) (hP : ∀ ps, H P = some (.tbl ps) → H' P = some (.tbl ps)) (k : ∀ c, H c = some (LamX.CodeO c q) → H' c = some (LamX.CodeO c q)) : LamX.TabS H' P q := by
  obtain ⟨ps, h1, h2, h3⟩ := t
  refine ⟨ps, hP ps h1, h2, fun pos cv hc => ?_⟩
  obtain ⟨c, e1, e2⟩ := h3 pos cv hc
  exact ⟨c, e1, k c e2⟩
theorem Ctx.step (c : Ctx F M σ H δ) (e : StepB F.mv H H') (hb : ∀ b, F.B = some b → BagAt H b F.C0 → BagAt H' b F.C0) (ht : ∀ p ∈ F.T, LamX.TabS H p.1 p.2 → LamX.TabS H' p.1 p.2) : Ctx F M σ H' δ :=
  c.stepG e ⟨fun b z => by
    obtain ⟨h1, h2, h3⟩ := c.bg.1 b z
    exact ⟨h1, hb b z h2, h3⟩, fun p h => by
    obtain ⟨h1, h2, h3⟩ := c.bg.2 p h
    refine ⟨h1, ht p h h2, fun a φ m z => ?_⟩
    obtain ⟨o, ho⟩ := c.al a m
    by_cases hv : F.mv a
    · rcases hv with hv | ⟨r, hv, e'⟩
      · obtain ⟨_, g2, _⟩ := c.bg.1 a hv
        obtain ⟨_, _, _, _, _, g3, _⟩ := hb a hv g2
        rw [z] at g3
        cases g3
      · obtain ⟨ps, g2, _⟩ := ht r hv (c.bg.2 r hv).2.1
        rw [e', z] at g2
        cases g2
    · have g := e a o hv ho
      rw [z] at g
      cases g
      exact h3 a φ m ho⟩
theorem Ctx.same (c : Ctx F M σ H δ) (e : Same H H') : Ctx F M σ H' δ := c.step (StepB.of e) (fun b z h => h.mono e) fun p _ h => h.ext e
theorem Ctx.get (c : Ctx F M σ H δ) {i : Nat} {d : D} (h : δ[i]? = some (.dat d)) : ∃ v, σ[i]? = some (some v) ∧ Rep F.K (hd M H) v d := by
  obtain ⟨s, h1, v, h2, h3⟩ := c.sl i _ h
  subst h2
  exact ⟨v, h1, h3⟩
theorem Ctx.set (c : Ctx F M σ H δ) (i : Nat) {v : V} {d : D} (r : Rep F.K (hd M H) v d) : Ctx F M (σ.set i (some v)) H (δ.set i (.dat d)) := by
  have key : ∀ (j : Nat) (x : SD), (δ.set i (.dat d))[j]? = some x → (i = j ∧ x = .dat d) ∨ (i ≠ j ∧ δ[j]? = some x) := fun j x hx => by
    by_cases hj : i = j
    · subst hj
      rw [List.getElem?_set] at hx
      rw [if_pos rfl] at hx
      split at hx
      · exact .inl ⟨rfl, (Option.some.inj hx).symm⟩
      · cases hx
    · rw [List.getElem?_set_ne hj] at hx
      exact .inr ⟨hj, hx⟩
  refine ⟨c.al, c.al0, c.m0, c.fr, c.bg, by rw [List.length_set, List.length_set, c.ln], fun j x hx => ?_, fun j k p ds es h1 h2 => ?_, fun j p ds h => ?_⟩
  · rcases key j x hx with ⟨rfl, rfl⟩ | ⟨hj, hx⟩
    · have hl : i < σ.length := by
        have := (List.getElem?_eq_some_iff.mp hx).1
        rw [List.length_set] at this
        rw [c.ln]
        exact this
      exact ⟨some v, by rw [List.getElem?_set_self hl], v, rfl, r⟩
    · rw [List.getElem?_set_ne hj]
      exact c.sl j x hx
  · rcases key j _ h1 with ⟨_, z⟩ | ⟨_, h1⟩
    · cases z
    rcases key k _ h2 with ⟨_, z⟩ | ⟨_, h2⟩
    · cases z
    exact c.dj j k p ds es h1 h2
  · rcases key j _ h with ⟨_, z⟩ | ⟨_, h⟩
    · cases z
    exact c.oh j p ds h
/-- a slot forgotten -/
theorem Ctx.drop (c : Ctx F M σ H δ) (i : Nat) (s : Option V) : Ctx F M (σ.set i s) H (δ.set i .un) := by
  have key : ∀ (j : Nat) (x : SD), (δ.set i .un)[j]? = some x → (i = j ∧ x = .un) ∨ (i ≠ j ∧ δ[j]? = some x) := fun j x hx => by
    by_cases hj : i = j
    · subst hj
      rw [List.getElem?_set] at hx
      rw [if_pos rfl] at hx
      split at hx
      · exact .inl ⟨rfl, (Option.some.inj hx).symm⟩
      · cases hx
    · rw [List.getElem?_set_ne hj] at hx
      exact .inr ⟨hj, hx⟩
  refine ⟨c.al, c.al0, c.m0, c.fr, c.bg, by rw [List.length_set, List.length_set, c.ln], fun j x hx => ?_, fun j k p ds es h1 h2 => ?_, fun j p ds h => ?_⟩
  · rcases key j x hx with ⟨rfl, rfl⟩ | ⟨hj, hx⟩
    · have hl : i < σ.length := by
        have := (List.getElem?_eq_some_iff.mp hx).1
        rw [List.length_set] at this
        rw [c.ln]
        exact this
      exact ⟨s, by rw [List.getElem?_set_self hl], trivial⟩
    · rw [List.getElem?_set_ne hj]
      exact c.sl j x hx
  · rcases key j _ h1 with ⟨_, z⟩ | ⟨_, h1⟩
    · cases z
    rcases key k _ h2 with ⟨_, z⟩ | ⟨_, h2⟩
    · cases z
    exact c.dj j k p ds es h1 h2
  · rcases key j _ h with ⟨_, z⟩ | ⟨_, h⟩
    · cases z
    exact c.oh j p ds h
def wipeD (δ : List SD) : List Nat → List SD
  | [] => δ
  | v :: vs => (wipeD δ vs).set v .un
theorem Ctx.wipe (c : Ctx F M σ H δ) : ∀ vs : List Nat, Ctx F M (wipe σ vs) H (wipeD δ vs)
  | [] => c
  | v :: vs => (Ctx.wipe c vs).drop v none
end

/-! ### judgements -/
def Ev (F : Fm) (te : TE) (δ : List SD) (P : D → Prop) : Prop := ∀ M σ H (Q : VK), Ctx F M σ H δ →
  (∀ v d H', P d → Ctx F M σ H' δ → StepB F.mv H H' → Rep F.K (hd M H') v d → Q v H') → te σ H Q
def EvT (F : Fm) (tt : TT) (δ : List SD) (P : Bool → Prop) : Prop := ∀ M σ H (Q : Bool → Hp → Prop), Ctx F M σ H δ →
  (∀ b H', P b → Ctx F M σ H' δ → StepB F.mv H H' → Q b H') → tt σ H Q
def EvA (F : Fm) (ta : TA) (δ : List SD) (P : List D → Prop) : Prop := ∀ M σ H (Q : List V → Hp → Prop), Ctx F M σ H δ →
  (∀ vs ds H', P ds → Ctx F M σ H' δ → StepB F.mv H H' → RepL F.K (hd M H') vs ds → Q vs H') → ta σ H Q
def Al (M : Addr → Bool) (H : Hp) : Prop := ∀ a, M a = true → ∃ o, H a = some o
/-- a two-place operation on data -/
def OpD (K : PySem.W.Frag) (r : R2) (x y : D) (P : D → Prop) : Prop := ∀ (M : Addr → Bool) (H : Hp) (v w : V) (Q : VK), Al M H → Rep K (hd M H) v x → Rep K (hd M H) w y →
  (∀ u d H', P d → Same H H' → Rep K (hd M H') u d → Q u H') → r v w H Q
def UnD (K : PySem.W.Frag) (r : V → Hp → VK → Prop) (x : D) (P : D → Prop) : Prop := ∀ (M : Addr → Bool) (H : Hp) (v : V) (Q : VK), Al M H → Rep K (hd M H) v x →
  (∀ u d H', P d → Same H H' → Rep K (hd M H') u d → Q u H') → r v H Q
/-- a call on data -/
def CallD (K : PySem.W.Frag) (r : List V → Hp → VK → Prop) (ds : List D) (P : D → Prop) : Prop := ∀ (M : Addr → Bool) (H : Hp) (vs : List V) (Q : VK), Al M H → RepL K (hd M H) vs ds →
  (∀ u d H', P d → Same H H' → Rep K (hd M H') u d → Q u H') → r vs H Q
theorem sz_of {n : Nat} (h : n ≤ 100000) : n ≤ sizeLine := Nat.le_trans h (by decide)
theorem sz_lt {n : Nat} (h : n < 100000) : n < sizeLine := Nat.lt_of_lt_of_le h (by decide)
theorem hd_new {M : Addr → Bool} {H : Hp} {p : Addr} {o : HO} (al : Al M H) (hp : H p = none) : hd M (upd H p o) p = some o := by
  refine hd_at ?_ upd_same
  cases e : M p with
  | true =>
    obtain ⟨u, h⟩ := al p e
    rw [hp] at h
    cases h
  | false => rfl
theorem same_hdM {M : Addr → Bool} {H H' : Hp} (e : Same H H') : Same (hd M H) (hd M H') := fun a o h => by
  obtain ⟨m, h1⟩ := hd_of h
  exact hd_at m (e a o h1)
section
variable {F : Fm} {δ : List SD} {ta tb tc te : TE} {tt tu : TT} {P P1 P2 P3 : D → Prop} {PT : Bool → Prop} {PA : List D → Prop}
theorem Ev.imp (h : Ev F te δ P) (i : ∀ d, P d → P1 d) : Ev F te δ P1 := fun M σ H Q c q => h M σ H Q c fun v d H' p => q v d H' (i d p)
theorem EvT.imp {PB PC : Bool → Prop} (h : EvT F tt δ PB) (i : ∀ d, PB d → PC d) : EvT F tt δ PC := fun M σ H Q c q => h M σ H Q c fun v H' p => q v H' (i v p)
theorem EvA.imp {ta : TA} {PB PC : List D → Prop} (h : EvA F ta δ PB) (i : ∀ d, PB d → PC d) : EvA F ta δ PC := fun M σ H Q c q => h M σ H Q c fun v d H' p => q v d H' (i d p)
theorem ev_var {i : Nat} {d : D} (h : δ[i]? = some (.dat d)) (p : P d) : Ev F (tVar i) δ P := fun M σ H Q c q => by
  obtain ⟨v, h1, h2⟩ := c.get h
  exact ⟨v, h1, q v d H p c (StepB.refl _ _) h2⟩
theorem ev_int {i : Int} (p : P (.int i)) : Ev F (tC (.int i)) δ P := fun M σ H Q c q => q _ _ H p c (StepB.refl _ _) (.int i)
theorem ev_bl {b : Bool} (p : P (.bl b)) : Ev F (tC (.bl b)) δ P := fun M σ H Q c q => q _ _ H p c (StepB.refl _ _) (.bl b)
theorem ev_str {x : Str} (p : P (.str x)) : Ev F (tC (.str x)) δ P := fun M σ H Q c q => q _ _ H p c (StepB.refl _ _) (.str x)
theorem ev_ty {n : String} (p : P (.ty n)) : Ev F (tC (.ty n)) δ P := fun M σ H Q c q => q _ _ H p c (StepB.refl _ _) (.ty n)
theorem ev_adr {a : Addr} (p : P (.adr a)) : Ev F (tC (.ref a)) δ P := fun M σ H Q c q => q _ _ H p c (StepB.refl _ _) (.adr a)
theorem ev_non (p : P .non) : Ev F (tC .non) δ P := fun M σ H Q c q => q _ _ H p c (StepB.refl _ _) .non
theorem ev_op {r : R2} (h : Ev F ta δ fun x => Ev F tb δ fun y => OpD F.K r x y P) : Ev F (tOp r ta tb) δ P := fun M σ H Q c q =>
  h M σ H _ c fun v x H1 p1 c1 e1 r1 => p1 M σ H1 _ c1 fun w y H2 p2 c2 e2 r2 =>
    p2 M H2 v w Q c2.al (r1.mono (hd_step c1 e2)) r2 fun u d H3 p e r3 => q u d H3 p (c2.same e) ((e1.trans e2).trans (StepB.of e)) r3
theorem ev_un {r : V → Hp → VK → Prop} (h : Ev F ta δ fun x => UnD F.K r x P) : Ev F (tUn r ta) δ P := fun M σ H Q c q =>
  h M σ H _ c fun v x H1 p1 c1 e1 r1 => p1 M H1 v Q c1.al r1 fun u d H3 p e r3 => q u d H3 p (c1.same e) (e1.trans (StepB.of e)) r3
/-- and, or, not of bools, as values -/
theorem ev_and (h : Ev F ta δ fun d => ∃ b, d = .bl b ∧ (b = true → Ev F tb δ P) ∧ (b = false → P (.bl false))) : Ev F (tAndV ta tb) δ P := fun M σ H Q c q =>
  h M σ H _ c fun v x H1 p1 c1 e1 r1 => by
    obtain ⟨b, rfl, h1, h2⟩ := p1
    cases r1
    refine ⟨b, rfl, ?_⟩
    cases b with
    | true => exact h1 rfl M σ H1 Q c1 fun u d H2 p c2 e2 r2 => q u d H2 p c2 (e1.trans e2) r2
    | false => exact q _ _ H1 (h2 rfl) c1 e1 (.bl false)
theorem ev_or (h : Ev F ta δ fun d => ∃ b, d = .bl b ∧ (b = false → Ev F tb δ P) ∧ (b = true → P (.bl true))) : Ev F (tOrV ta tb) δ P := fun M σ H Q c q =>
  h M σ H _ c fun v x H1 p1 c1 e1 r1 => by
    obtain ⟨b, rfl, h1, h2⟩ := p1
    cases r1
    refine ⟨b, rfl, ?_⟩
    cases b with
    | false => exact h1 rfl M σ H1 Q c1 fun u d H2 p c2 e2 r2 => q u d H2 p c2 (e1.trans e2) r2
    | true => exact q _ _ H1 (h2 rfl) c1 e1 (.bl true)
theorem ev_not (h : Ev F ta δ fun d => ∃ b, d = .bl b ∧ P (.bl (!b))) : Ev F (tNotV ta) δ P := fun M σ H Q c q =>
  h M σ H _ c fun v x H1 p1 c1 e1 r1 => by
    obtain ⟨b, rfl, pb⟩ := p1
    cases r1
    exact ⟨b, rfl, q _ _ H1 pb c1 e1 (.bl _)⟩
theorem ev_if (h : EvT F tt δ fun b => (b = true → Ev F ta δ P) ∧ (b = false → Ev F tb δ P)) : Ev F (tIf tt ta tb) δ P := fun M σ H Q c q =>
  h M σ H _ c fun b H1 pb c1 e1 => by
    cases b with
    | true => exact pb.1 rfl M σ H1 Q c1 fun u d H2 p c2 e2 r2 => q u d H2 p c2 (e1.trans e2) r2
    | false => exact pb.2 rfl M σ H1 Q c1 fun u d H2 p c2 e2 r2 => q u d H2 p c2 (e1.trans e2) r2
/-- a op1 b op2 c -/
theorem ev_chain {r r' : R2} (h : Ev F ta δ fun x => Ev F tb δ fun y => OpD F.K r x y fun z => ∃ b, z = .bl b ∧ (b = true → Ev F tc δ fun w => OpD F.K r' y w P) ∧ (b = false → P (.bl false))) : Ev F (tChain r r' ta tb tc) δ P := fun M σ H Q c q =>
  by
  refine h M σ H _ c fun v x H1 p1 c1 e1 r1 => ?_
  refine p1 M σ H1 _ c1 fun w y H2 p2 c2 e2 r2 => ?_
  refine p2 M H2 v w _ c2.al (r1.mono (hd_step c1 e2)) r2 fun u d H3 p e r3 => ?_
  obtain ⟨b, rfl, h1, h2⟩ := p
  cases r3
  refine ⟨b, rfl, ?_⟩
  cases b with
  | false => exact q _ _ H3 (h2 rfl) (c2.same e) ((e1.trans e2).trans (StepB.of e)) (.bl false)
  | true =>
    rw [if_pos rfl]
    refine h1 rfl M σ H3 _ (c2.same e) fun u4 d4 H4 p4 c4 e4 r4 => ?_
    refine p4 M H4 w u4 Q c4.al (r2.mono ((same_hdM e).trans (hd_step (c2.same e) e4))) r4 fun u5 d5 H5 p5 e5 r5 => ?_
    exact q u5 d5 H5 p5 (c4.same e5) (((e1.trans e2).trans (StepB.of e)).trans (e4.trans (StepB.of e5))) r5
/-! tests -/
theorem et_test (h : Ev F te δ fun d => ∃ b, d = .bl b ∧ PT b) : EvT F (tTest te) δ PT := fun M σ H Q c q =>
  h M σ H _ c fun v x H1 p1 c1 e1 r1 => by
    obtain ⟨b, rfl, pb⟩ := p1
    cases r1
    exact ⟨b, rfl, q b H1 pb c1 e1⟩
theorem et_B (h : Ev F te δ fun d => ∃ b, d = .bl b ∧ PT b) : EvT F (tB te) δ PT := fun M σ H Q c q =>
  h M σ H _ c fun v x H1 p1 c1 e1 r1 => by
    obtain ⟨b, rfl, pb⟩ := p1
    cases r1
    exact ⟨b, rfl, q b H1 pb c1 e1⟩
theorem et_and (h : EvT F tt δ fun b => (b = true → EvT F tu δ PT) ∧ (b = false → PT false)) : EvT F (tAnd tt tu) δ PT := fun M σ H Q c q =>
  h M σ H _ c fun b H1 pb c1 e1 => by
    cases b with
    | true => exact pb.1 rfl M σ H1 Q c1 fun b2 H2 p c2 e2 => q b2 H2 p c2 (e1.trans e2)
    | false => exact q false H1 (pb.2 rfl) c1 e1
theorem et_or (h : EvT F tt δ fun b => (b = false → EvT F tu δ PT) ∧ (b = true → PT true)) : EvT F (tOr tt tu) δ PT := fun M σ H Q c q =>
  h M σ H _ c fun b H1 pb c1 e1 => by
    cases b with
    | false => exact pb.1 rfl M σ H1 Q c1 fun b2 H2 p c2 e2 => q b2 H2 p c2 (e1.trans e2)
    | true => exact q true H1 (pb.2 rfl) c1 e1
theorem et_not (h : EvT F tt δ fun b => PT (!b)) : EvT F (tNot tt) δ PT := fun M σ H Q c q =>
  h M σ H _ c fun b H1 pb c1 e1 => q (!b) H1 pb c1 e1
theorem et_yes (p : PT true) : EvT F tYes δ PT := fun M σ H Q c q => q true H p c (StepB.refl _ _)
/-! lists of values -/
theorem ea_nil (p : PA []) : EvA F tNil δ PA := fun M σ H Q c q => q [] [] H p c (StepB.refl _ _) .nil
theorem ea_cons {tr : TA} (h : Ev F te δ fun x => EvA F tr δ fun r => PA (x :: r)) : EvA F (tCons te tr) δ PA := fun M σ H Q c q =>
  h M σ H _ c fun v x H1 p1 c1 e1 r1 => p1 M σ H1 _ c1 fun vs ds H2 p2 c2 e2 r2 => q _ (x :: ds) H2 p2 c2 (e1.trans e2) (.cons (r1.mono (hd_step c1 e2)) r2)
theorem ev_tup {ta : TA} (h : EvA F ta δ fun ds => ds.length ≤ 100000 ∧ P (.tup ds)) : Ev F (tTup ta) δ P := fun M σ H Q c q =>
  h M σ H _ c fun vs ds H1 p1 c1 e1 r1 => ⟨by rw [r1.length]; exact sz_of p1.1, fun p hp =>
    q _ (.tup ds) _ p1.2 (c1.same (same_new hp)) (e1.trans (StepB.of (same_new hp))) (.tup (SqT.of (hd_new c1.al hp)) (r1.mono (same_hdM (same_new hp))))⟩
theorem ev_lst {ta : TA} (h : EvA F ta δ fun ds => ds.length ≤ 100000 ∧ P (.lst ds)) : Ev F (tLst ta) δ P := fun M σ H Q c q =>
  h M σ H _ c fun vs ds H1 p1 c1 e1 r1 => ⟨by rw [r1.length]; exact sz_of p1.1, fun p hp =>
    q _ (.lst ds) _ p1.2 (c1.same (same_new hp)) (e1.trans (StepB.of (same_new hp))) (.lst (hd_new c1.al hp) (r1.mono (same_hdM (same_new hp))))⟩
theorem ev_cb {r : List V → Hp → VK → Prop} {ta : TA} (h : EvA F ta δ fun ds => CallD F.K r ds P) : Ev F (tCB r ta) δ P := fun M σ H Q c q =>
  h M σ H _ c fun vs ds H1 p1 c1 e1 r1 => p1 M H1 vs Q c1.al r1 fun u d H2 p e r2 => q u d H2 p (c1.same e) (e1.trans (StepB.of e)) r2
end
/-! ### operations on data -/
section
variable {K : PySem.W.Frag} {P : D → Prop} {i j : Int}
theorem od_I0 {g : Int → Int → V} {d : D} (hr : ∀ H, Rep K H (g i j) d) (p : P d) : OpD K (rI0 g) (.int i) (.int j) P := fun M H v w Q al r1 r2 q => by
  cases r1
  cases r2
  exact ⟨i, j, rfl, rfl, q _ d H p (Same.refl H) (hr _)⟩
theorem od_I {C : Int → Int → Prop} {g : Int → Int → V} {d : D} (hc : C i j) (hr : ∀ H, Rep K H (g i j) d) (p : P d) : OpD K (rI C g) (.int i) (.int j) P := fun M H v w Q al r1 r2 q => by
  cases r1
  cases r2
  exact ⟨i, j, rfl, rfl, hc, q _ d H p (Same.refl H) (hr _)⟩
theorem od_int {g : Int → Int → Int} (p : P (.int (g i j))) : OpD K (rI0 fun i j => .int (g i j)) (.int i) (.int j) P := od_I0 (fun _ => .int _) p
theorem od_bl {g : Int → Int → Bool} (p : P (.bl (g i j))) : OpD K (rI0 fun i j => .bl (g i j)) (.int i) (.int j) P := od_I0 (fun _ => .bl _) p
theorem od_intC {C : Int → Int → Prop} {g : Int → Int → Int} (hc : C i j) (p : P (.int (g i j))) : OpD K (rI C fun i j => .int (g i j)) (.int i) (.int j) P := od_I hc (fun _ => .int _) p
end
end Pf

namespace Pf
open PySem L2 RZ

/-! ### statements on data -/
structure PD where
  nx : List SD → Prop
  rt : D → Prop := fun _ => False
  bk : List SD → Prop := fun _ => False
  ct : List SD → Prop := fun _ => False
def Do (F : Fm) (ts : TS) (δ : List SD) (P : PD) : Prop := ∀ M σ H (E : Ends), Ctx F M σ H δ →
  (∀ M' σ' H' δ', P.nx δ' → Ctx F M' σ' H' δ' → Same (hd M H) (hd M' H') → E.nx σ' H') →
  (∀ v d M' σ' H' δ', P.rt d → Ctx F M' σ' H' δ' → Same (hd M H) (hd M' H') → Rep F.K (hd M' H') v d → E.rt v H') →
  (∀ M' σ' H' δ', P.bk δ' → Ctx F M' σ' H' δ' → Same (hd M H) (hd M' H') → E.bk σ' H') →
  (∀ M' σ' H' δ', P.ct δ' → Ctx F M' σ' H' δ' → Same (hd M H) (hd M' H') → E.ct σ' H') → ts E σ H
/-- a target -/
def TgD (F : Fm) (g : TG) (js : List Nat) (x : D) (δ : List SD) (R : List SD → Prop) : Prop := ∀ M σ H v (Q : L2.St → Hp → Prop), Ctx F M σ H δ → Rep F.K (hd M H) v x →
  (∀ σ' H' δ', R δ' → Ctx F M σ' H' δ' → StepB F.mv H H' → (∀ vs : List Nat, (∀ j ∈ js, j ∈ vs) → wipe σ' vs = wipe σ vs) → Q σ' H') → g v σ H Q
def TgsD (F : Fm) (g : TGs) (js : List Nat) (x : List D) (δ : List SD) (R : List SD → Prop) : Prop := ∀ M σ H v (Q : L2.St → Hp → Prop), Ctx F M σ H δ → RepL F.K (hd M H) v x →
  (∀ σ' H' δ', R δ' → Ctx F M σ' H' δ' → StepB F.mv H H' → (∀ vs : List Nat, (∀ j ∈ js, j ∈ vs) → wipe σ' vs = wipe σ vs) → Q σ' H') → g v σ H Q
/-- what is walked -/
def WalkD (F : Fm) (J : It) (M : Addr → Bool) (H : Hp) (xs : List D) : Prop := ∃ (G : Hp → Prop) (Y : Nat → Hp → V → Hp → Prop), Walk J xs.length G Y ∧
  (∀ M2 H2, Same (hd M H) (hd M2 H2) → StepB F.mv F.H0 H2 → G H2) ∧ ∀ M2 H2 i x H3, Al M2 H2 → Same (hd M H) (hd M2 H2) → Y i H2 x H3 → Same H2 H3 ∧ ∃ d, xs[i]? = some d ∧ Rep F.K (hd M2 H3) x d
def ItD (F : Fm) (wi : TI) (δ : List SD) (PX : List D → Prop) : Prop := ∀ M σ H (R : It → Hp → Prop), Ctx F M σ H δ →
  (∀ J xs H', PX xs → Ctx F M σ H' δ → StepB F.mv H H' → WalkD F J M H' xs → R J H') → wi σ H R
section
variable {F : Fm} {δ : List SD} {ta tb tc te : TE} {t u ts : TS} {tt tu : TT} {P : D → Prop} {PX : List D → Prop} {R : PD} {M : Addr → Bool} {σ : L2.St} {H H' : Hp} {g : TG} {gs : TGs} {wi : TI}
theorem Do.imp {R' : PD} (h : Do F t δ R) (h1 : ∀ δ', R.nx δ' → R'.nx δ') (h2 : ∀ d, R.rt d → R'.rt d) (h3 : ∀ δ', R.bk δ' → R'.bk δ') (h4 : ∀ δ', R.ct δ' → R'.ct δ') : Do F t δ R' := fun M σ H E c a b k d =>
  h M σ H E c (fun M' σ' H' δ' p => a M' σ' H' δ' (h1 _ p)) (fun v d M' σ' H' δ' p => b v d M' σ' H' δ' (h2 _ p)) (fun M' σ' H' δ' p => k M' σ' H' δ' (h3 _ p)) (fun M' σ' H' δ' p => d M' σ' H' δ' (h4 _ p))
theorem do_seq (h : Do F t δ { R with nx := fun δ' => Do F u δ' R }) : Do F (tSeq t u) δ R := fun M σ H E c a b k d =>
  h M σ H { E with nx := u E } c (fun M' σ' H' δ' p c' s => p M' σ' H' E c' (fun M2 σ2 H2 δ2 p2 c2 s2 => a M2 σ2 H2 δ2 p2 c2 (s.trans s2)) (fun v x M2 σ2 H2 δ2 p2 c2 s2 => b v x M2 σ2 H2 δ2 p2 c2 (s.trans s2))
    (fun M2 σ2 H2 δ2 p2 c2 s2 => k M2 σ2 H2 δ2 p2 c2 (s.trans s2)) (fun M2 σ2 H2 δ2 p2 c2 s2 => d M2 σ2 H2 δ2 p2 c2 (s.trans s2))) b k d
theorem do_next (p : R.nx δ) : Do F tNext δ R := fun M σ H E c a b k d => a M σ H δ p c (Same.refl _)
theorem do_ret (h : Ev F te δ R.rt) : Do F (tRet te) δ R := fun M σ H E c a b k d =>
  h M σ H _ c fun v x H1 p c1 e r => b v x M σ H1 δ p c1 (hd_step c e) r
theorem do_retN (p : R.rt .non) : Do F tRetN δ R := fun M σ H E c a b k d => b _ _ M σ H δ p c (Same.refl _) .non
theorem do_drop (h : Ev F te δ fun _ => R.nx δ) : Do F (tDrop te) δ R := fun M σ H E c a b k d =>
  h M σ H _ c fun v x H1 p c1 e r => a M σ H1 δ p c1 (hd_step c e)
theorem do_set {i : Nat} (h : Ev F te δ fun x => R.nx (δ.set i (.dat x))) : Do F (tAsg te (gName i)) δ R := fun M σ H E c a b k d =>
  h M σ H _ c fun v x H1 p c1 e r => a M _ H1 _ p (c1.set i r) (hd_step c e)
theorem do_asg {js : List Nat} (h : Ev F te δ fun x => TgD F g js x δ R.nx) : Do F (tAsg te g) δ R := fun M σ H E c a b k d =>
  h M σ H _ c fun v x H1 p c1 e r => p M σ H1 v _ c1 r fun σ2 H2 δ2 p2 c2 e2 _ => a M σ2 H2 δ2 p2 c2 ((hd_step c e).trans (hd_step c1 e2))
theorem do_if (h : EvT F tt δ fun b => (b = true → Do F t δ R) ∧ (b = false → Do F u δ R)) : Do F (tIfS tt t u) δ R := fun M σ H E c a b k d =>
  h M σ H _ c fun y H1 p c1 e => by
    have s := hd_step c e
    cases y with
    | true =>
      exact p.1 rfl M σ H1 E c1 (fun M2 σ2 H2 δ2 p2 c2 s2 => a M2 σ2 H2 δ2 p2 c2 (s.trans s2)) (fun v x M2 σ2 H2 δ2 p2 c2 s2 => b v x M2 σ2 H2 δ2 p2 c2 (s.trans s2))
        (fun M2 σ2 H2 δ2 p2 c2 s2 => k M2 σ2 H2 δ2 p2 c2 (s.trans s2)) (fun M2 σ2 H2 δ2 p2 c2 s2 => d M2 σ2 H2 δ2 p2 c2 (s.trans s2))
    | false =>
      exact p.2 rfl M σ H1 E c1 (fun M2 σ2 H2 δ2 p2 c2 s2 => a M2 σ2 H2 δ2 p2 c2 (s.trans s2)) (fun v x M2 σ2 H2 δ2 p2 c2 s2 => b v x M2 σ2 H2 δ2 p2 c2 (s.trans s2))
        (fun M2 σ2 H2 δ2 p2 c2 s2 => k M2 σ2 H2 δ2 p2 c2 (s.trans s2)) (fun M2 σ2 H2 δ2 p2 c2 s2 => d M2 σ2 H2 δ2 p2 c2 (s.trans s2))
/-! targets -/
theorem wipe_set {j : Nat} {s : Option V} : ∀ {vs : List Nat}, j ∈ vs → wipe (σ.set j s) vs = wipe σ vs
  | [], h => by cases h
  | v :: vs, h => by
    show (wipe (σ.set j s) vs).set v none = (wipe σ vs).set v none
    by_cases hv : j = v
    · subst hv
      have key : ∀ ws : List Nat, (wipe (σ.set j s) ws).set j none = (wipe σ ws).set j none := by
        intro ws
        induction ws with
        | nil =>
          show (σ.set j s).set j none = σ.set j none
          rw [List.set_set]
        | cons w ws ih =>
          show ((wipe (σ.set j s) ws).set w none).set j none = ((wipe σ ws).set w none).set j none
          by_cases hw : w = j
          · subst hw
            rw [List.set_set, List.set_set, ih]
          · rw [List.set_comm _ _ hw, List.set_comm _ _ hw, ih]
      exact key vs
    · have : j ∈ vs := by
        rcases List.mem_cons.mp h with h | h
        · exact absurd h hv
        · exact h
      rw [wipe_set this]
theorem tg_name {i : Nat} {x : D} {Q : List SD → Prop} (p : Q (δ.set i (.dat x))) : TgD F (gName i) [i] x δ Q := fun M σ H v R c r q =>
  q _ H _ p (c.set i r) (StepB.refl _ _) fun vs h => wipe_set (h i (by simp))
theorem tgs_nil {Q : List SD → Prop} (p : Q δ) : TgsD F gNil [] [] δ Q := fun M σ H v R c r q => by
  cases r
  exact ⟨rfl, q σ H δ p c (StepB.refl _ _) fun vs _ => rfl⟩
theorem tgs_cons {js ks : List Nat} {x : D} {xs : List D} {Q : List SD → Prop} (h : TgD F g js x δ fun δ' => TgsD F gs ks xs δ' Q) : TgsD F (gCons g gs) (js ++ ks) (x :: xs) δ Q := fun M σ H v R c r q => by
  cases r with
  | cons r1 r2 =>
    refine ⟨_, _, rfl, h M σ H _ _ c r1 fun σ1 H1 δ1 p1 c1 e1 w1 => ?_⟩
    refine p1 M σ1 H1 _ _ c1 (r2.mono (hd_step c e1)) fun σ2 H2 δ2 p2 c2 e2 w2 => ?_
    refine q σ2 H2 δ2 p2 c2 (e1.trans e2) fun vs h => ?_
    rw [w2 vs fun j hj => h j (List.mem_append_right _ hj), w1 vs fun j hj => h j (List.mem_append_left _ hj)]
theorem tg_tup {n : Nat} {js : List Nat} {xs : List D} {Q : List SD → Prop} (hn : xs.length = n) (h : TgsD F gs js xs δ Q) : TgD F (gTup F.K n gs) js (.tup xs) δ Q := fun M σ H v R c r q => by
  cases r with
  | tup h1 h2 => exact ⟨_, _, rfl, same_tup (same_hd M H) h1, by rw [h2.length, hn], h M σ H _ _ c h2 q⟩
/-! walks -/
theorem walkD_list {F : Fm} {a : Addr} {xs : List V} {ds : List D} (h : hd M H a = some (.lst xs)) (r : RepL F.K (hd M H) xs ds) : WalkD F (Itl F.K a) M H ds := by
  refine ⟨fun H => SqL F.K H a xs, YAt xs, by rw [← r.length]; exact walk_list, fun M2 H2 e _ => SqL.of (hd_of (e _ _ h)).2, fun M2 H2 i x H3 al e y => ?_⟩
  obtain ⟨rfl, y⟩ := y
  obtain ⟨d, h1, h2⟩ := r.getV y
  exact ⟨Same.refl _, d, h1, h2.mono e⟩
theorem it_list (h : Ev F te δ fun d => ∃ ds, d = .lst ds ∧ PX ds) : ItD F (iList F.K te) δ PX := fun M σ H R c q =>
  h M σ H _ c fun v d H1 p c1 e r => by
    obtain ⟨ds, rfl, p⟩ := p
    cases r with
    | lst h1 h2 => exact ⟨_, rfl, ⟨_, SqL.of (hd_of h1).2⟩, q _ ds H1 p c1 e (walkD_list h1 h2)⟩
theorem walkD_tup {F : Fm} {a : Addr} {xs : List V} {ds : List D} (h : SqT F.K (hd M H) a xs) (r : RepL F.K (hd M H) xs ds) : WalkD F (Itt F.K a) M H ds := by
  refine ⟨fun H => SqT F.K H a xs, YAt xs, by rw [← r.length]; exact walk_tup, fun M2 H2 e _ => same_tup (e.trans (same_hd M2 H2)) h, fun M2 H2 i x H3 al e y => ?_⟩
  obtain ⟨rfl, y⟩ := y
  obtain ⟨d, h1, h2⟩ := r.getV y
  exact ⟨Same.refl _, d, h1, h2.mono e⟩
theorem it_tup (h : Ev F te δ fun d => ∃ ds, d = .tup ds ∧ PX ds) : ItD F (iTup F.K te) δ PX := fun M σ H R c q =>
  h M σ H _ c fun v d H1 p c1 e r => by
    obtain ⟨ds, rfl, p⟩ := p
    cases r with
    | tup h1 h2 => exact ⟨_, rfl, ⟨_, same_tup (same_hd M H1) h1⟩, q _ ds H1 p c1 e (walkD_tup h1 h2)⟩
/-- lo, lo + 1, .. -/
def upto (lo : Int) (n : Nat) : List D := (List.range n).map fun i => .int (lo + (i : Nat))
theorem upto_len {lo : Int} {n : Nat} : (upto lo n).length = n := by simp [upto]
theorem upto_get {lo : Int} {n i : Nat} {d : D} (h : (upto lo n)[i]? = some d) : i < n ∧ d = .int (lo + (i : Nat)) := by
  have hi := (List.getElem?_eq_some_iff.mp h).1
  rw [upto_len] at hi
  refine ⟨hi, ?_⟩
  unfold upto at h
  rw [List.getElem?_map, List.getElem?_range hi] at h
  exact (Option.some.inj h).symm
theorem walkD_range {F : Fm} {lo : Int} {n : Nat} : WalkD F (Itr lo n) M H (upto lo n) := by
  refine ⟨fun _ => True, fun i H x H' => i < n ∧ H' = H ∧ x = .int (lo + i), ?_, fun _ _ _ _ => trivial, fun M2 H2 i x H3 al e y => ?_⟩
  · rw [upto_len]
    exact ⟨fun _ _ hi _ => hi, fun _ _ => Nat.le_refl _, fun _ _ _ _ hi _ y => ⟨hi, y⟩⟩
  · obtain ⟨hi, rfl, rfl⟩ := y
    refine ⟨Same.refl _, .int (lo + (i : Nat)), ?_, .int _⟩
    unfold upto
    rw [List.getElem?_map, List.getElem?_range hi]
    rfl
theorem it_range1 {ta : TA} (h : EvA F ta δ fun l => ∃ n : Int, l = [.int n] ∧ -1000000 ≤ n ∧ n ≤ 1000000 ∧ PX (upto 0 n.toNat)) : ItD F (iRng1 ta) δ PX := fun M σ H R c q =>
  h M σ H _ c fun vs ds H1 p c1 e r => by
    obtain ⟨n, rfl, h1, h2, p⟩ := p
    cases r with
    | cons r1 r2 =>
      cases r1
      cases r2
      exact ⟨n, rfl, by omega, by omega, q _ _ H1 p c1 e walkD_range⟩
/-- the signs of a text -/
def signs (z : Str) : List D := z.cps.toList.map fun c => .str ⟨#[c]⟩
theorem it_str (h : Ev F te δ fun d => ∃ z, d = .str z ∧ PX (signs z)) : ItD F (iStr te) δ PX := fun M σ H R c q =>
  h M σ H _ c fun v d H1 p c1 e r => by
    obtain ⟨z, rfl, p⟩ := p
    cases r
    refine ⟨z, rfl, q _ _ H1 p c1 e ⟨fun _ => True, fun i H v H' => H' = H ∧ ∃ c, z.cps[i]? = some c ∧ v = .str ⟨#[c]⟩, ?_, fun _ _ _ _ => trivial, fun M2 H2 i x H3 al e y => ?_⟩⟩
    · have := walk_str (z := z)
      have l : (signs z).length = z.cps.size := by simp [signs]
      rw [l]
      exact this
    · obtain ⟨rfl, c, h1, rfl⟩ := y
      refine ⟨Same.refl _, .str ⟨#[c]⟩, ?_, .str _⟩
      unfold signs
      rw [List.getElem?_map]
      have : z.cps.toList[i]? = some c := by simpa using h1
      rw [this]
      rfl
/-- pairs -/
def pairs (xs ys : List D) : List D := (xs.zip ys).map fun p => .tup [p.1, p.2]
theorem pair_ok {K : PySem.W.Frag} {M2 : Addr → Bool} {H2 : Hp} {T : Addr} {x y : V} {d e : D} (al : Al M2 H2) (hT : H2 T = none) (r1 : Rep K (hd M2 H2) x d) (r2 : Rep K (hd M2 H2) y e) : Rep K (hd M2 (upd H2 T (.tup [x, y]))) (.ref T) (.tup [d, e]) :=
  .tup (SqT.of (hd_new al hT)) (.cons (r1.mono (same_hdM (same_new hT))) (.cons (r2.mono (same_hdM (same_new hT))) .nil))
theorem walkD_zip {F : Fm} {a b : Addr} {xs ys : List V} {ds es : List D} (h : hd M H a = some (.lst xs)) (r : RepL F.K (hd M H) xs ds) (h' : hd M H b = some (.lst ys)) (r' : RepL F.K (hd M H) ys es) : WalkD F (Itz F.K a b) M H (pairs ds es) := by
  refine ⟨_, _, walk_zip (xs := xs) (ys := ys) ?_, fun M2 H2 e _ => ⟨SqL.of (hd_of (e _ _ h)).2, SqL.of (hd_of (e _ _ h')).2⟩, fun M2 H2 i x H3 al e y => ?_⟩
  · unfold pairs
    rw [List.length_map, List.length_zip, r.length, r'.length]
  · obtain ⟨T, v, w, rfl, hT, rfl, h1, h2⟩ := y
    obtain ⟨d, e1, r1⟩ := r.getV h1
    obtain ⟨f, e2, r2⟩ := r'.getV h2
    refine ⟨same_new hT, .tup [d, f], ?_, pair_ok al hT (r1.mono e) (r2.mono e)⟩
    unfold pairs
    rw [List.getElem?_map, List.getElem?_zip_eq_some (z := (d, f)) |>.mpr ⟨e1, e2⟩]
    rfl
theorem walk_zipT {K : PySem.W.Frag} {a b : Addr} {xs ys : List V} {n : Nat} (hn : n = min xs.length ys.length) : Walk (ItzT K a b) n (fun H => SqT K H a xs ∧ SqT K H b ys) (YPair (fun i => xs[i]?) (fun i => ys[i]?)) := by
  subst hn
  refine ⟨fun i _ hi q => ?_, fun _ q => ⟨xs, ys, q.1, q.2, by omega⟩, fun i H v H' _ q y => ?_⟩
  · have h1 : i < xs.length := by omega
    have h2 : i < ys.length := by omega
    exact ⟨xs, ys, xs[i], ys[i], q.1, q.2, by simp [h1], by simp [h2]⟩
  · obtain ⟨T, x, z, h1, h2, h3, h4, h5⟩ := y
    exact ⟨T, x, z, h1, h2, h3, h4 xs q.1, h5 ys q.2⟩
theorem walkD_zipT {F : Fm} {a b : Addr} {xs ys : List V} {ds es : List D} (h : SqT F.K (hd M H) a xs) (r : RepL F.K (hd M H) xs ds) (h' : SqT F.K (hd M H) b ys) (r' : RepL F.K (hd M H) ys es) : WalkD F (ItzT F.K a b) M H (pairs ds es) := by
  refine ⟨_, _, walk_zipT (xs := xs) (ys := ys) ?_, fun M2 H2 e _ => ⟨same_tup (e.trans (same_hd M2 H2)) h, same_tup (e.trans (same_hd M2 H2)) h'⟩, fun M2 H2 i x H3 al e y => ?_⟩
  · unfold pairs
    rw [List.length_map, List.length_zip, r.length, r'.length]
  · obtain ⟨T, v, w, rfl, hT, rfl, h1, h2⟩ := y
    obtain ⟨d, e1, r1⟩ := r.getV h1
    obtain ⟨f, e2, r2⟩ := r'.getV h2
    refine ⟨same_new hT, .tup [d, f], ?_, pair_ok al hT (r1.mono e) (r2.mono e)⟩
    unfold pairs
    rw [List.getElem?_map, List.getElem?_zip_eq_some (z := (d, f)) |>.mpr ⟨e1, e2⟩]
    rfl
/-- of two lists, of two tuples -/
theorem it_zipA {ta : TA} (h : EvA F ta δ fun l => ∃ xs ys, (l = [.lst xs, .lst ys] ∨ l = [.tup xs, .tup ys]) ∧ PX (pairs xs ys)) : ItD F (iZipA F.K ta) δ PX := fun M σ H R c q =>
  h M σ H _ c fun vs ds H1 p c1 e r => by
    obtain ⟨xs, ys, hl, p⟩ := p
    rcases hl with rfl | rfl
    · cases r with
      | cons r1 r2 =>
        cases r2 with
        | cons r2 r3 =>
          cases r3
          cases r1 with
          | lst h1 h2 =>
            cases r2 with
            | lst h3 h4 => exact ⟨_, _, _, _, rfl, .inl ⟨SqL.of (hd_of h1).2, SqL.of (hd_of h3).2, q _ _ H1 p c1 e (walkD_zip h1 h2 h3 h4)⟩⟩
    · cases r with
      | cons r1 r2 =>
        cases r2 with
        | cons r2 r3 =>
          cases r3
          cases r1 with
          | tup h1 h2 =>
            cases r2 with
            | tup h3 h4 => exact ⟨_, _, _, _, rfl, .inr ⟨same_tup (same_hd M H1) h1, same_tup (same_hd M H1) h3, q _ _ H1 p c1 e (walkD_zipT h1 h2 h3 h4)⟩⟩
/-- enumerate -/
def numbered (xs : List D) : List D := (List.range xs.length).map fun i => .tup [.int (i : Nat), xs.getD i .non]
/-! for -/
theorem do_for {js : List Nat} (hw : ItD F wi δ PX) (I : List D → Nat → List SD → Prop) (h0 : ∀ xs, PX xs → I xs 0 δ)
    (hs : ∀ xs i x δ', PX xs → xs[i]? = some x → I xs i δ' → TgD F g js x δ' fun δ2 => Do F t δ2 { nx := I xs (i + 1), ct := I xs (i + 1), bk := R.nx, rt := R.rt })
    (he : ∀ xs δ', PX xs → I xs xs.length δ' → R.nx δ') : Do F (tFor wi g t) δ R := fun M σ H E c a b k d => by
  refine hw M σ H _ c fun J xs H1 px c1 e1 wd => ?_
  obtain ⟨G, Y, w, wg, wy⟩ := wd
  have s1 := hd_step c e1
  refine for_it w (fun i σ' H' => ∃ M' δ', I xs i δ' ∧ Ctx F M' σ' H' δ' ∧ Same (hd M H1) (hd M' H')) ⟨M, δ, h0 xs px, c1, Same.refl _⟩ (fun i σ' H' _ ⟨M', δ', _, c', s⟩ => wg M' H' s c'.fr) ?_ ?_
  · rintro i x σ' H' H2 hi ⟨M', δ', hI, c', s⟩ y
    obtain ⟨s2, dx, h1, r⟩ := wy M' H' i x H2 c'.al s y
    have c2 := c'.same s2
    refine hs xs i dx δ' px h1 hI M' σ' H2 x _ c2 r fun σ3 H3 δ3 p3 c3 e3 _ => ?_
    have s3 : Same (hd M H1) (hd M' H3) := s.trans ((same_hdM s2).trans (hd_step c2 e3))
    refine p3 M' σ3 H3 _ c3 (fun M4 σ4 H4 δ4 p4 c4 s4 => ⟨M4, δ4, p4, c4, s3.trans s4⟩) (fun v y M4 σ4 H4 δ4 p4 c4 s4 r4 => b v y M4 σ4 H4 δ4 p4 c4 ((s1.trans s3).trans s4) r4)
      (fun M4 σ4 H4 δ4 p4 c4 s4 => a M4 σ4 H4 δ4 p4 c4 ((s1.trans s3).trans s4)) (fun M4 σ4 H4 δ4 p4 c4 s4 => ⟨M4, δ4, p4, c4, s3.trans s4⟩)
  · rintro σ' H' ⟨M', δ', hI, c', s⟩
    exact a M' σ' H' δ' (he xs δ' px hI) c' (s1.trans s)
end

/-! ### a list of one's own -/
def hid (M : Addr → Bool) (p : Addr) : Addr → Bool := fun a => if a = p then true else M a
theorem hid_same {M : Addr → Bool} {p : Addr} : hid M p p = true := if_pos rfl
theorem hid_ne {M : Addr → Bool} {p a : Addr} (h : a ≠ p) : hid M p a = M a := if_neg h
theorem hid_le {M : Addr → Bool} {p : Addr} : ∀ a, M a = true → hid M p a = true := fun a h => by
  unfold hid
  split
  · rfl
  · exact h
def shw (M : Addr → Bool) (p : Addr) : Addr → Bool := fun a => if a = p then false else M a
theorem shw_same {M : Addr → Bool} {p : Addr} : shw M p p = false := if_pos rfl
theorem shw_ne {M : Addr → Bool} {p a : Addr} (h : a ≠ p) : shw M p a = M a := if_neg h
theorem shw_le {M : Addr → Bool} {p : Addr} : ∀ a, shw M p a = true → M a = true := fun a h => by
  by_cases e : a = p
  · subst e
    rw [shw_same] at h
    cases h
  · rw [shw_ne e] at h
    exact h
theorem hd_upd {M : Addr → Bool} {H : Hp} {p : Addr} {o : HO} (h : M p = true) : hd M (upd H p o) = hd M H := by
  funext a
  unfold hd
  by_cases e : a = p
  · subst e
    rw [h, if_pos rfl, if_pos rfl]
  · rw [upd_ne e]
section
variable {F : Fm} {M : Addr → Bool} {σ : L2.St} {H H' : Hp} {δ : List SD}
theorem set_key {i j : Nat} {x y : SD} (hx : (δ.set i y)[j]? = some x) : (i = j ∧ x = y ∧ i < δ.length) ∨ (i ≠ j ∧ δ[j]? = some x) := by
  by_cases hj : i = j
  · subst hj
    rw [List.getElem?_set] at hx
    rw [if_pos rfl] at hx
    split at hx
    · exact .inl ⟨rfl, (Option.some.inj hx).symm, by assumption⟩
    · cases hx
  · rw [List.getElem?_set_ne hj] at hx
    exact .inr ⟨hj, hx⟩
/-- p, which no own slot is, is shown no more | shown again -/
theorem nx_hid {M : Addr → Bool} {H : Hp} {p : Addr} {o : HO} (n : NX M H) (hp : H p = none) (nx : ∀ φ, o ≠ .ext φ) : NX (hid M p) (upd H p o) := fun a φ m z => by
  by_cases e : a = p
  · subst e
    rw [upd_same] at z
    exact nx φ (Option.some.inj z)
  · rw [hid_ne e] at m
    rw [upd_ne e] at z
    exact n a φ m z
theorem Ctx.hide (c : Ctx F M σ H δ) {p : Addr} (hp : H p = none) {o : HO} (nx : ∀ φ, o ≠ .ext φ := by (intro φ z; cases z)) : Ctx F (hid M p) σ (upd H p o) δ := by
  have s : Same (hd M H) (hd (hid M p) (upd H p o)) := fun a u e => by
    obtain ⟨m, h⟩ := hd_of e
    have n : a ≠ p := ne_of_none h hp
    exact hd_at (by rw [hid_ne n]; exact m) (by rw [upd_ne n]; exact h)
  refine ⟨fun a m => ?_, c.al0, fun a m => hid_le a (c.m0 a m), fun a u n h => (same_new hp) a u (c.fr a u n h), ⟨fun b z => (c.bg.1 b z).imp id fun ⟨h1, h2⟩ => ⟨h1.mono (same_new hp), h2⟩, fun r h => (c.bg.2 r h).imp id fun t => ⟨t.1.ext (same_new hp), nx_hid t.2 hp nx⟩⟩, c.ln, fun i x hx => ?_, c.dj, c.oh⟩
  · by_cases e : a = p
    · subst e
      exact ⟨o, upd_same⟩
    · rw [hid_ne e] at m
      obtain ⟨u, h⟩ := c.al a m
      exact ⟨u, by rw [upd_ne e]; exact h⟩
  · obtain ⟨y, h1, h2⟩ := c.sl i x hx
    refine ⟨y, h1, ?_⟩
    cases x with
    | un => trivial
    | dat d =>
      obtain ⟨v, e, r⟩ := h2
      exact ⟨v, e, r.mono s⟩
    | own q ds =>
      obtain ⟨e, m, vs, h3, r⟩ := h2
      exact ⟨e, hid_le q m, vs, same_new hp _ _ h3, r.mono s⟩
    | bag => exact h2
    | sq ds =>
      obtain ⟨q, vs, g1, g2, g3, g4⟩ := h2
      exact ⟨q, vs, g1, g2, g3, g4.mono s⟩
    | sl ds =>
      obtain ⟨q, vs, g1, g2, g3, g4⟩ := h2
      exact ⟨q, vs, g1, g2, g3, g4.mono s⟩
    | oll q qs => exact ⟨h2.1, h2.2.mono (fun a m _ => hid_le a m) (fun a o _ _ _ h => same_new hp a o h) s⟩
theorem Ctx.show' (c : Ctx F (hid M p) σ H δ) (hp : M p = false) (h0 : F.H0 p = none) (no : ∀ (j : Nat) (es : OD), δ[j]? ≠ some (.own p es)) : Ctx F M σ H δ := by
  have n0 : ∀ a, F.M0 a = true → a ≠ p := fun a m e => by
    subst e
    obtain ⟨o, h⟩ := c.al0 _ m
    rw [h0] at h
    cases h
  refine ⟨fun a m => c.al a (hid_le a m), c.al0, fun a m => by rw [← hid_ne (M := M) (n0 a m)]; exact c.m0 a m, c.fr, ⟨c.bg.1, fun r h => (c.bg.2 r h).imp id fun t => ⟨t.1, fun a φ m => t.2 a φ (hid_le a m)⟩⟩, c.ln, fun i x hx => ?_, c.dj, c.oh⟩
  obtain ⟨y, h1, h2⟩ := c.sl i x hx
  refine ⟨y, h1, ?_⟩
  cases x with
  | un => trivial
  | dat d =>
    obtain ⟨v, e, r⟩ := h2
    exact ⟨v, e, r.mono (same_hd_le hid_le)⟩
  | own q ds =>
    obtain ⟨e, m, vs, h3, r⟩ := h2
    have n : q ≠ p := fun z => by
      subst z
      exact no i ds hx
    rw [hid_ne n] at m
    exact ⟨e, m, vs, h3, r.mono (same_hd_le hid_le)⟩
  | bag => exact h2
  | sq ds =>
    obtain ⟨q, vs, g1, g2, g3, g4⟩ := h2
    exact ⟨q, vs, g1, g2, g3, g4.mono (same_hd_le hid_le)⟩
  | sl ds =>
    obtain ⟨q, vs, g1, g2, g3, g4⟩ := h2
    exact ⟨q, vs, g1, g2, g3, g4.mono (same_hd_le hid_le)⟩
  | oll q qs => exact ⟨h2.1, h2.2.mono (fun a m n => by rw [hid_ne (show a ≠ p from fun e => n (by rw [e]; exact h0))] at m; exact m) (fun _ _ _ _ _ h => h) (same_hd_le hid_le)⟩
/-- a slot takes a list of its own -/
theorem Ctx.setOwn (c : Ctx F M σ H δ) (i : Nat) {p : Addr} {vs : HO} {ds : OD} (m : M p = true) (h : H p = some vs) (r : RepO F.K (hd M H) vs ds) (h0 : F.H0 p = none) (hb : ¬ F.mv p)
    (no : ∀ (j : Nat) (es : OD), i ≠ j → δ[j]? ≠ some (.own p es)) : Ctx F M (σ.set i (some (.ref p))) H (δ.set i (.own p ds)) := by
  refine ⟨c.al, c.al0, c.m0, c.fr, c.bg, by rw [List.length_set, List.length_set, c.ln], fun j x hx => ?_, fun j k q es fs h1 h2 => ?_, fun j q es h => ?_⟩
  · rcases set_key hx with ⟨rfl, rfl, hl⟩ | ⟨hj, hx⟩
    · exact ⟨_, by rw [List.getElem?_set_self (by rw [c.ln]; exact hl)], rfl, m, vs, h, r⟩
    · rw [List.getElem?_set_ne hj]
      exact c.sl j x hx
  · rcases set_key h1 with ⟨rfl, z, _⟩ | ⟨hj, h1⟩
    · cases z
      rcases set_key h2 with ⟨rfl, _, _⟩ | ⟨hk, h2⟩
      · rfl
      · exact absurd h2 (no k _ hk)
    · rcases set_key h2 with ⟨rfl, z, _⟩ | ⟨hk, h2⟩
      · cases z
        exact absurd h1 (no j _ hj)
      · exact c.dj j k q es fs h1 h2
  · rcases set_key h with ⟨rfl, z, _⟩ | ⟨hj, h⟩
    · cases z
      exact ⟨h0, hb⟩
    · exact c.oh j q es h
theorem nx_upd {M : Addr → Bool} {H : Hp} {p : Addr} {o : HO} (n : NX M H) (nx : ∀ φ, o ≠ .ext φ) : NX M (upd H p o) := fun a φ m z => by
  by_cases e : a = p
  · subst e
    rw [upd_same] at z
    exact nx φ (Option.some.inj z)
  · rw [upd_ne e] at z
    exact n a φ m z
/-- a hidden list that no slot owns is changed -/
theorem Ctx.poke (c : Ctx F M σ H δ) {p : Addr} {xs ys : HO} (m : M p = true) (hp : H p = some xs) (h0 : F.H0 p = none) (hb : ¬ F.mv p) (no : ∀ (j : Nat) (es : OD), δ[j]? ≠ some (.own p es)) (nx : ∀ φ, xs ≠ .ext φ := by (intro φ z; cases z)) (ny : ∀ φ, ys ≠ .ext φ := by (intro φ z; cases z)) : Ctx F M σ (upd H p ys) δ := by
  have hm : hd M (upd H p ys) = hd M H := hd_upd m
  have bg : ∀ b, F.B = some b → F.M0 b = true ∧ BagAt (upd H p ys) b F.C0 ∧ ∃ o, F.H0 F.C0 = some o := fun b z => by
    obtain ⟨g0, g1, g2⟩ := c.bg.1 b z
    obtain ⟨ns, k, z1, z2, z3, q1, q2, q3, q4⟩ := g1
    have n1 : b ≠ p := fun e => hb (.inl (e ▸ z))
    have n2 : F.C0 ≠ p := fun e => by
      rw [← e] at h0
      obtain ⟨o, g3⟩ := g2
      rw [h0] at g3
      cases g3
    exact ⟨g0, ⟨ns, k, z1, z2, z3, by rw [upd_ne n1]; exact q1, q2, by rw [upd_ne n2]; exact q3, q4⟩, g2⟩
  refine ⟨fun a q => ?_, c.al0, c.m0, fun a o n h => ?_, ⟨bg, fun r h => (c.bg.2 r h).imp id fun t => ⟨tabS_step t.1 (fun ps e => by rw [upd_ne (fun z : r.1 = p => hb (.inr ⟨r, h, z⟩))]; exact e) fun x e => by rw [upd_ne (fun z => nx _ (Option.some.inj (hp.symm.trans (z ▸ e))))]; exact e, nx_upd t.2 ny⟩⟩, c.ln, fun j x hx => ?_, c.dj, c.oh⟩
  · by_cases e : a = p
    · subst e
      exact ⟨_, upd_same⟩
    · rw [upd_ne e]
      exact c.al a q
  · have n2 : a ≠ p := fun e => by
      subst e
      rw [h0] at h
      cases h
    rw [upd_ne n2]
    exact c.fr a o n h
  · obtain ⟨y, g1, g2⟩ := c.sl j x hx
    refine ⟨y, g1, ?_⟩
    cases x with
    | un => trivial
    | dat d =>
      obtain ⟨v, e, r⟩ := g2
      exact ⟨v, e, by rw [hm]; exact r⟩
    | own q fs =>
      obtain ⟨e, mq, us, g3, r⟩ := g2
      have n : q ≠ p := fun z => by
        subst z
        exact no j _ hx
      exact ⟨e, mq, us, by rw [upd_ne n]; exact g3, by rw [hm]; exact r⟩
    | bag => exact g2
    | sq ds =>
      obtain ⟨q, vs, k1, k2, k3, k4⟩ := g2
      exact ⟨q, vs, k1, k2, k3, by rw [hm]; exact k4⟩
    | sl ds =>
      obtain ⟨q, vs, k1, k2, k3, k4⟩ := g2
      exact ⟨q, vs, k1, k2, k3, by rw [hm]; exact k4⟩
    | oll q qs => exact ⟨g2.1, g2.2.mono (fun _ m _ => m) (fun a o _ _ n h => by rw [upd_ne (show a ≠ p from fun e => n (by rw [e]; exact h0))]; exact h) (by rw [hm]; exact Same.refl _)⟩
/-- the own list is changed -/
theorem Ctx.put (c : Ctx F M σ H δ) {i : Nat} {p : Addr} {ds es : OD} {vs : HO} (hi : δ[i]? = some (.own p ds)) (r : RepO F.K (hd M H) vs es) : Ctx F M σ (upd H p vs) (δ.set i (.own p es)) := by
  obtain ⟨y, h1, hy, m, ws, h3, r0⟩ := c.sl i _ hi
  subst hy
  obtain ⟨h0, hb⟩ := c.oh i p ds hi
  have nx : ∀ φ, ws ≠ .ext φ := fun φ z => by
    subst z
    cases r0
  have ny : ∀ φ, vs ≠ .ext φ := fun φ z => by
    subst z
    cases r
  have hm : hd M (upd H p vs) = hd M H := hd_upd m
  have bg : ∀ b, F.B = some b → F.M0 b = true ∧ BagAt (upd H p vs) b F.C0 ∧ ∃ o, F.H0 F.C0 = some o := fun b z => by
    obtain ⟨g0, g1, g2⟩ := c.bg.1 b z
    obtain ⟨ns, k, z1, z2, z3, q1, q2, q3, q4⟩ := g1
    have n1 : b ≠ p := fun e => hb (.inl (e ▸ z))
    have n2 : F.C0 ≠ p := fun e => by
      rw [← e] at h0
      obtain ⟨o, g3⟩ := g2
      rw [h0] at g3
      cases g3
    exact ⟨g0, ⟨ns, k, z1, z2, z3, by rw [upd_ne n1]; exact q1, q2, by rw [upd_ne n2]; exact q3, q4⟩, g2⟩
  refine ⟨fun a q => ?_, c.al0, c.m0, fun a o n h => ?_, ⟨bg, fun r h => (c.bg.2 r h).imp id fun t => ⟨tabS_step t.1 (fun ps e => by rw [upd_ne (fun z : r.1 = p => hb (.inr ⟨r, h, z⟩))]; exact e) fun x e => by rw [upd_ne (fun z => nx _ (Option.some.inj (h3.symm.trans (z ▸ e))))]; exact e, nx_upd t.2 ny⟩⟩, by rw [List.length_set, c.ln], fun j x hx => ?_, fun j k q e1 e2 h1 h2 => ?_, fun j q e1 h => ?_⟩
  · by_cases e : a = p
    · subst e
      exact ⟨_, upd_same⟩
    · rw [upd_ne e]
      exact c.al a q
  · have n2 : a ≠ p := fun e => by
      subst e
      rw [h0] at h
      cases h
    rw [upd_ne n2]
    exact c.fr a o n h
  · rcases set_key hx with ⟨rfl, rfl, hl⟩ | ⟨hj, hx2⟩
    · exact ⟨_, h1, rfl, m, vs, upd_same, by rw [hm]; exact r⟩
    · obtain ⟨y, g1, g2⟩ := c.sl j x hx2
      refine ⟨y, g1, ?_⟩
      cases x with
      | un => trivial
      | dat d =>
        obtain ⟨v, e, r⟩ := g2
        exact ⟨v, e, by rw [hm]; exact r⟩
      | own q fs =>
        obtain ⟨e, mq, us, g3, r⟩ := g2
        have n : q ≠ p := fun z => by
          subst z
          exact hj (c.dj i j _ _ _ hi hx2)
        exact ⟨e, mq, us, by rw [upd_ne n]; exact g3, by rw [hm]; exact r⟩
      | bag => exact g2
      | sq ds =>
        obtain ⟨q, vs, k1, k2, k3, k4⟩ := g2
        exact ⟨q, vs, k1, k2, k3, by rw [hm]; exact k4⟩
      | sl ds =>
        obtain ⟨q, vs, k1, k2, k3, k4⟩ := g2
        exact ⟨q, vs, k1, k2, k3, by rw [hm]; exact k4⟩
      | oll q qs => exact ⟨g2.1, g2.2.mono (fun _ m _ => m) (fun a o _ _ n h => by rw [upd_ne (show a ≠ p from fun e => n (by rw [e]; exact h0))]; exact h) (by rw [hm]; exact Same.refl _)⟩
  · rcases set_key h1 with ⟨rfl, z, _⟩ | ⟨hj, h1⟩
    · cases z
      rcases set_key h2 with ⟨rfl, _, _⟩ | ⟨hk, h2⟩
      · rfl
      · exact c.dj _ _ _ _ _ hi h2
    · rcases set_key h2 with ⟨rfl, z, _⟩ | ⟨hk, h2⟩
      · cases z
        exact c.dj _ _ _ _ _ h1 hi
      · exact c.dj j k q e1 e2 h1 h2
  · rcases set_key h with ⟨rfl, z, _⟩ | ⟨hj, h⟩
    · cases z
      exact ⟨h0, hb⟩
    · exact c.oh j q e1 h
/-- the own list is looked at as data from here on -/
theorem Ctx.freeze (c : Ctx F M σ H δ) {i : Nat} {p : Addr} {ds : OD} (hi : δ[i]? = some (.own p ds)) : Ctx F (shw M p) σ H (δ.set i (.dat ds.d)) := by
  obtain ⟨y, h1, hy, m, ws, h3, r0⟩ := c.sl i _ hi
  subst hy
  obtain ⟨h0, hb⟩ := c.oh i p ds hi
  have s : Same (hd M H) (hd (shw M p) H) := same_hd_le shw_le
  have n0 : ∀ a, F.M0 a = true → a ≠ p := fun a mm e => by
    subst e
    obtain ⟨o, h⟩ := c.al0 _ mm
    rw [h0] at h
    cases h
  refine ⟨fun a q => c.al a (shw_le a q), c.al0, fun a q => by rw [shw_ne (n0 a q)]; exact c.m0 a q, c.fr, ⟨c.bg.1, fun r h => (c.bg.2 r h).imp id fun t => ⟨t.1, fun a φ m => t.2 a φ (shw_le a m)⟩⟩, by rw [List.length_set, c.ln], fun j x hx => ?_, fun j k q e1 e2 h1 h2 => ?_, fun j q e1 h => ?_⟩
  · rcases set_key hx with ⟨rfl, rfl, hl⟩ | ⟨hj, hx2⟩
    · exact ⟨_, h1, _, rfl, (r0.mono s).rep (hd_at shw_same h3)⟩
    · obtain ⟨y, g1, g2⟩ := c.sl j x hx2
      refine ⟨y, g1, ?_⟩
      cases x with
      | un => trivial
      | dat d =>
        obtain ⟨v, e, r⟩ := g2
        exact ⟨v, e, r.mono s⟩
      | own q fs =>
        obtain ⟨e, mq, us, g3, r⟩ := g2
        have n : q ≠ p := fun z => by
          subst z
          exact hj (c.dj i j _ _ _ hi hx2)
        exact ⟨e, by rw [shw_ne n]; exact mq, us, g3, r.mono s⟩
      | bag => exact g2
      | sq ds =>
        obtain ⟨q, vs, k1, k2, k3, k4⟩ := g2
        exact ⟨q, vs, k1, k2, k3, k4.mono s⟩
      | sl ds =>
        obtain ⟨q, vs, k1, k2, k3, k4⟩ := g2
        exact ⟨q, vs, k1, k2, k3, k4.mono s⟩
      | oll q qs => exact ⟨g2.1, g2.2.mono (fun a m n => by rw [shw_ne (show a ≠ p from fun e => n (by rw [e]; exact (c.oh i p _ hi).1))]; exact m) (fun _ _ _ _ _ h => h) s⟩
  · rcases set_key h1 with ⟨rfl, z, _⟩ | ⟨hj, h1⟩
    · cases z
    rcases set_key h2 with ⟨rfl, z, _⟩ | ⟨hk, h2⟩
    · cases z
    exact c.dj j k q e1 e2 h1 h2
  · rcases set_key h with ⟨rfl, z, _⟩ | ⟨hj, h⟩
    · cases z
    exact c.oh j q e1 h
end
/-- an expression that makes a new list -/
def EvN (F : Fm) (te : TE) (δ : List SD) (P : List D → Prop) : Prop := ∀ M σ H (Q : VK), Ctx F M σ H δ →
  (∀ p vs ds H', P ds → Ctx F (hid M p) σ H' δ → H p = none → F.H0 p = none → ¬ F.mv p → (∀ (j : Nat) (es : OD), δ[j]? ≠ some (.own p es)) → StepB F.mv H H' → H' p = some (.lst vs) → RepL F.K (hd (hid M p) H') vs ds → Q (.ref p) H') → te σ H Q
section
variable {F : Fm} {δ : List SD} {ta tb tc te : TE} {t u ts : TS} {tt tu : TT} {P : List D → Prop} {PX : List D → Prop} {R : PD} {M : Addr → Bool} {σ : L2.St} {H H' : Hp} {g : TG} {gs : TGs} {wi : TI}
theorem Ctx.nob (c : Ctx F M σ H δ) {p : Addr} (hp : H p = none) : ¬ F.mv p := fun z => by
  rcases z with z | z
  case inr =>
    obtain ⟨r, z, e⟩ := z
    obtain ⟨_, ⟨ps, h, _⟩, _⟩ := c.bg.2 r z
    rw [e, hp] at h
    cases h
  obtain ⟨_, h, _⟩ := c.bg.1 p z
  obtain ⟨o, h⟩ := h.at
  rw [hp] at h
  cases h
theorem Ctx.h0 (c : Ctx F M σ H δ) {p : Addr} (hp : H p = none) : F.H0 p = none := by
  cases q : F.H0 p with
  | none => rfl
  | some o =>
    have := c.fr p o (c.nob hp) q
    rw [hp] at this
    cases this
theorem Ctx.nown (c : Ctx F M σ H δ) {p : Addr} (hp : H p = none) : ∀ (j : Nat) (es : OD), δ[j]? ≠ some (.own p es) := fun j es h => by
  obtain ⟨s, _, _, _, vs, h3, _⟩ := c.sl j _ h
  rw [hp] at h3
  cases h3
theorem al_none {p : Addr} (al : Al M H) (hp : H p = none) : M p = false := by
  cases e : M p with
  | true =>
    obtain ⟨u, h⟩ := al p e
    rw [hp] at h
    cases h
  | false => rfl
theorem EvN.ev {P : D → Prop} (h : EvN F te δ fun ds => P (.lst ds)) : Ev F te δ P := fun M σ H Q c q =>
  h M σ H Q c fun p vs ds H' pd c' hp h0 hb no e hl r => by
    have m := al_none c.al hp
    have s : Same (hd (hid M p) H') (hd M H') := same_hd_le hid_le
    exact q _ (.lst ds) H' pd (c'.show' m h0 no) e (.lst (hd_at m hl) (r.mono s))
theorem en_lst {ta : TA} (h : EvA F ta δ fun ds => ds.length ≤ 100000 ∧ P ds) : EvN F (tLst ta) δ P := fun M σ H Q c q =>
  h M σ H _ c fun vs ds H1 p1 c1 e1 r1 => ⟨by rw [r1.length]; exact sz_of p1.1, fun p hp => by
    have hp0 : H p = none := by
      cases z : H p with
      | none => rfl
      | some o =>
        have := e1 p o (c1.nob hp) z
        rw [hp] at this
        cases this
    have c2 := c1.hide hp (o := .lst vs)
    refine q p vs ds _ p1.2 c2 hp0 (c1.h0 hp) (c1.nob hp) (c1.nown hp) (e1.trans (StepB.of (same_new hp))) upd_same (r1.mono fun a u e => ?_)
    obtain ⟨m, h⟩ := hd_of e
    have n : a ≠ p := ne_of_none h hp
    exact hd_at (by rw [hid_ne n]; exact m) (by rw [upd_ne n]; exact h)⟩
/-- a slot takes a new list as its own -/
theorem do_own {i : Nat} (h : EvN F te δ fun ds => ∀ p, R.nx (δ.set i (.own p (.lst ds)))) : Do F (tAsg te (gName i)) δ R := fun M σ H E c a b k d =>
  h M σ H _ c fun p vs ds H' pd c' hp h0 hb no e hl r => a (hid M p) _ H' _ (pd p) (c'.setOwn i hid_same hl (.lst r) h0 hb fun j es _ => no j es) fun x o hx => by
    obtain ⟨m, h1⟩ := hd_of hx
    have n : x ≠ p := ne_of_none h1 hp
    refine hd_at (by rw [hid_ne n]; exact m) (e x o (fun z => ?_) h1)
    have := c.m0 x (z.elim (fun z => (c.bg.1 x z).1) fun ⟨r, z, e⟩ => e ▸ (c.bg.2 r z).1)
    rw [m] at this
    cases this
theorem do_freeze {i : Nat} {p : Addr} {ds : OD} (hi : δ[i]? = some (.own p ds)) (h : Do F t (δ.set i (.dat ds.d)) R) : Do F t δ R := fun M σ H E c a b k d => by
  have s : Same (hd M H) (hd (shw M p) H) := same_hd_le shw_le
  exact h (shw M p) σ H E (c.freeze hi) (fun M2 σ2 H2 δ2 p2 c2 s2 => a M2 σ2 H2 δ2 p2 c2 (s.trans s2)) (fun v x M2 σ2 H2 δ2 p2 c2 s2 => b v x M2 σ2 H2 δ2 p2 c2 (s.trans s2))
    (fun M2 σ2 H2 δ2 p2 c2 s2 => k M2 σ2 H2 δ2 p2 c2 (s.trans s2)) (fun M2 σ2 H2 δ2 p2 c2 s2 => d M2 σ2 H2 δ2 p2 c2 (s.trans s2))
theorem do_append {i : Nat} {p : Addr} {ds : List D} (hi : δ[i]? = some (.own p (.lst ds))) (hl : ds.length < 100000) (h : Ev F te δ fun x => R.nx (δ.set i (.own p (.lst (ds ++ [x]))))) :
    Do F (tDrop (tBM F.K "list" rAppend (tVar i) (tCons te tNil))) δ R := fun M σ H E c a b k d => by
  obtain ⟨y, h1, hy, m, ho, h3, r0⟩ := c.sl i _ hi
  subst hy
  cases r0 with
  | @lst ws _ r0 =>
  refine ⟨_, h1, .inl ⟨rfl, ws, SqL.of h3⟩, ?_⟩
  refine h M σ H _ c fun v x H1 px c1 e r => ?_
  have h4 := e p _ (c.oh i p _ hi).2 h3
  have s := hd_step c e
  refine ⟨p, ws, v, rfl, rfl, h4, by rw [r0.length]; exact sz_lt hl, ?_⟩
  refine a M σ _ _ px (c1.put hi (.lst ((r0.mono s).append (RepL.one r)))) ?_
  rw [hd_upd m]
  exact s
/-! comprehensions -/
theorem en_lc {js vs : List Nat} (hw : ItD F wi δ PX) (hl : ∀ xs, PX xs → xs.length ≤ 100000) (hj : ∀ j ∈ js, j ∈ vs) (I : List D → Nat → List D → Prop) (h0 : ∀ xs, PX xs → I xs 0 [])
    (hs : ∀ xs i x acc, PX xs → xs[i]? = some x → I xs i acc → TgD F g js x (wipeD δ vs) fun δ' => EvT F tt δ' fun b => (b = true → Ev F te δ' fun y => I xs (i + 1) (acc ++ [y])) ∧ (b = false → I xs (i + 1) acc))
    (he : ∀ xs ds, PX xs → I xs xs.length ds → P ds) : EvN F (tLc wi g tt te vs) δ P := fun M σ H Q c q => by
  refine hw M σ H _ c fun J xs H1 px c1 e1 wd => ?_
  intro A hA
  obtain ⟨G, Y, w, wg, wy⟩ := wd
  have hA0 : H A = none := by
    cases z : H A with
    | none => rfl
    | some o =>
      have := e1 A o (c1.nob hA) z
      rw [hA] at this
      cases this
  have c2 := c1.hide hA (o := .lst [])
  have mA := al_none c1.al hA
  have s0 : Same (hd M H1) (hd (hid M A) (upd H1 A (.lst []))) := fun a u e => by
    obtain ⟨m, h⟩ := hd_of e
    have n : a ≠ A := ne_of_none h hA
    exact hd_at (by rw [hid_ne n]; exact m) (by rw [upd_ne n]; exact h)
  have k0 : StepB F.mv H (upd H1 A (.lst [])) := e1.trans (StepB.of (same_new hA))
  have hlen := hl xs px
  -- the wiped slots are wiped once and for all
  have ww : ∀ σ2 : L2.St, wipe σ2 vs = wipe (wipe σ vs) vs → wipe σ2 vs = wipe σ vs := fun σ2 h => by
    rw [h]
    have key : ∀ (ws : List Nat) (τ : L2.St), (∀ j ∈ ws, j ∈ vs) → wipe (wipe τ ws) vs = wipe τ vs := by
      intro ws
      induction ws with
      | nil => intro τ _; rfl
      | cons j js ih =>
        intro τ hjs
        show wipe ((wipe τ js).set j none) vs = wipe τ vs
        rw [wipe_set (hjs j (by simp)), ih τ fun k hk => hjs k (List.mem_cons_of_mem _ hk)]
    exact key vs σ fun _ h => h
  refine lc_it w (fun i H' => ∃ ws acc, I xs i acc ∧ acc.length ≤ i ∧ Ctx F (hid M A) σ H' δ ∧ StepB F.mv H H' ∧ Same (hd M H1) (hd (hid M A) H') ∧ H' A = some (.lst ws) ∧ RepL F.K (hd (hid M A) H') ws acc)
    ⟨[], [], h0 xs px, Nat.le_refl _, c2, k0, s0, upd_same, .nil⟩ (fun i H' _ ⟨_, _, _, _, c', _, s, _⟩ => wg (hid M A) H' s c'.fr) ?_ ?_
  · rintro i x H' H2 hi ⟨ws, acc, hI, ha, c', k', s, hAl, r⟩ y
    obtain ⟨s2, dx, h1, rx⟩ := wy (hid M A) H' i x H2 c'.al s y
    have c2 := c'.same s2
    refine hs xs i dx acc px h1 hI (hid M A) (wipe σ vs) H2 x _ (c2.wipe vs) rx fun σ3 H3 δ3 p3 c3 e3 w3 => ⟨ww σ3 (w3 vs hj), ?_⟩
    refine p3 (hid M A) σ3 H3 _ c3 fun b H4 pb c4 e4 => ?_
    have k4 : StepB F.mv H2 H4 := e3.trans e4
    have c24 : Ctx F (hid M A) σ H4 δ := c2.stepG k4 c4.bg
    have s24 : Same (hd (hid M A) H2) (hd (hid M A) H4) := hd_step c2 k4
    have hA2 : H2 A = some (.lst ws) := s2 _ _ hAl
    have hA4 : H4 A = some (.lst ws) := k4 A _ (c1.nob hA) hA2
    have k' : StepB F.mv H H2 := k'.trans (StepB.of s2)
    have s' : Same (hd M H1) (hd (hid M A) H2) := s.trans (same_hdM s2)
    have r' : RepL F.K (hd (hid M A) H2) ws acc := r.mono (same_hdM s2)
    cases b with
    | false =>
      rw [if_neg Bool.false_ne_true]
      exact ⟨ws, acc, pb.2 rfl, Nat.le_succ_of_le ha, c24, k'.trans k4, s'.trans s24, hA4, r'.mono s24⟩
    | true =>
      rw [if_pos rfl]
      refine pb.1 rfl (hid M A) σ3 H4 _ c4 fun v d H5 pd c5 e5 r5 => ?_
      have k5 : StepB F.mv H2 H5 := k4.trans e5
      have c25 : Ctx F (hid M A) σ H5 δ := c2.stepG k5 c5.bg
      have s25 : Same (hd (hid M A) H2) (hd (hid M A) H5) := hd_step c2 k5
      have hA5 : H5 A = some (.lst ws) := k5 A _ (c1.nob hA) hA2
      have hm : hd (hid M A) (upd H5 A (.lst (ws ++ [v]))) = hd (hid M A) H5 := hd_upd hid_same
      have hal : acc.length < 100000 := by omega
      refine ⟨ws, hA5, by rw [r.length]; exact sz_lt hal, ws ++ [v], acc ++ [d], pd, by simp only [List.length_append, List.length_cons, List.length_nil]; omega, ?_, ?_, ?_, upd_same, ?_⟩
      · refine c25.poke hid_same hA5 (c1.h0 hA) (c1.nob hA) (c1.nown hA)
      · intro a o n h
        by_cases e : a = A
        · subst e
          rw [hA0] at h
          cases h
        · rw [upd_ne e]
          exact k5 a o n (k' a o n h)
      · rw [hm]
        exact s'.trans s25
      · rw [hm]
        exact (r'.mono s25).append (RepL.one r5)
  · rintro H' ⟨ws, acc, hI, ha, c', k', s, hAl, r⟩
    exact q A ws acc H' (he xs acc px hI) c' hA0 (c1.h0 hA) (c1.nob hA) (c1.nown hA) k' hAl r
end
end Pf

namespace Pf
open PySem L2 RZ

/-! ### calls of defs -/
/-- a promise that speaks of data alone; one of a def whose first argument is the bag -/
def spD (K : PySem.W.Frag) (Pre : List D → Prop) (Post : List D → D → Prop) : Sp := fun vs H Q _ => ∃ (M : Addr → Bool) (ds : List D), Al M H ∧ RepL K (hd M H) vs ds ∧ Pre ds ∧
  ∀ v d H', Post ds d → Same H H' → Rep K (hd M H') v d → Q v H'
def spB (K : PySem.W.Frag) (Pre : List D → Prop) (Post : List D → D → Prop) : Sp := fun vs H Q _ => ∃ (M : Addr → Bool) (b c : Addr) (ws : List V) (ds : List D), vs = .ref b :: ws ∧ Al M H ∧ M b = true ∧ BagAt H b c ∧ RepL K (hd M H) ws ds ∧ Pre ds ∧
  ∀ v d H', Post ds d → StepB (· = b) H H' → BagAt H' b c → Rep K (hd M H') v d → Q v H'
section
variable {F : Fm} {δ : List SD} {ta : TA} {te : TE} {P : D → Prop} {Pre : List D → Prop} {Post : List D → D → Prop} {E : XK}
theorem ev_call (h : EvA F ta δ fun ds => Pre ds ∧ ∀ d, Post ds d → P d) : Ev F (tCall (spD F.K Pre Post) [] E ta) δ P := fun M σ H Q c q =>
  h M σ H _ c fun vs ds H1 p c1 e1 r => by
    rw [List.append_nil]
    exact ⟨M, ds, c1.al, r, p.1, fun v d H2 pd s r2 => q v d H2 (p.2 d pd) (c1.same s) (e1.trans (StepB.of s)) r2⟩
theorem ev_callB {i : Nat} {b : Addr} (hb : F.B = some b) (hi : δ[i]? = some .bag) (h : EvA F ta δ fun ds => Pre ds ∧ ∀ d, Post ds d → P d) : Ev F (tCall (spB F.K Pre Post) [] E (tCons (tVar i) ta)) δ P := fun M σ H Q c q => by
  obtain ⟨s, h1, b', h2, h3⟩ := c.sl i _ hi
  subst h3
  rw [hb] at h2
  cases h2
  refine ⟨_, h1, ?_⟩
  refine h M σ H _ c fun vs ds H1 p c1 e1 r => ?_
  show spB F.K Pre Post (V.ref b :: vs ++ []) H1 Q E
  rw [List.append_nil]
  obtain ⟨g0, g1, g2⟩ := c1.bg.1 b hb
  refine ⟨M, b, F.C0, vs, ds, rfl, c1.al, c1.m0 b g0, g1, r, p.1, fun v d H2 pd s ba r2 => ?_⟩
  have s' : StepB F.mv H1 H2 := fun a o n h => s a o (fun z => n (.inl (by rw [hb, z]))) h
  exact q v d H2 (p.2 d pd) (c1.stepG s' ⟨fun b2 z => by
    rw [hb] at z
    cases z
    exact ⟨g0, ba, g2⟩, fun r h => by
    obtain ⟨z1, z2, z3⟩ := c1.bg.2 r h
    obtain ⟨_, _, _, _, _, g3, _⟩ := g1
    refine ⟨z1, tabS_step z2 (fun ps z2 => s r.1 _ (fun z => ?_) z2) (fun x z2 => s x _ (fun z => ?_) z2), fun x φ m y => ?_⟩
    rotate_left
    rotate_left
    · obtain ⟨o, ho⟩ := c1.al x m
      by_cases e : x = b
      · obtain ⟨_, _, _, _, _, g4, _⟩ := ba
        rw [e, g4] at y
        cases y
      · have := s x o e ho
        rw [y] at this
        cases this
        exact z3 x φ m ho
    · have z : r.1 = b := z
      rw [z, g3] at z2
      cases z2
    · have z : x = b := z
      rw [z, g3] at z2
      cases z2⟩) (e1.trans s') r2
end
/-! ### into a def's body -/
def slots (N : List Str) (ds : List D) : List SD := ds.map .dat ++ List.replicate (N.length - ds.length) .un
def slotsB (N : List Str) (ds : List D) : List SD := .bag :: (ds.map .dat ++ List.replicate (N.length - (ds.length + 1)) .un)
theorem sl_base {K : PySem.W.Frag} {F : Fm} {M : Addr → Bool} {H : Hp} (hK : F.K = K) : ∀ {vs : List V} {ds : List D} (n : Nat), RepL K (hd M H) vs ds →
    ∀ (i : Nat) (x : SD), (ds.map SD.dat ++ List.replicate n .un)[i]? = some x → ∃ s, (vs.map some ++ List.replicate n none)[i]? = some s ∧ SlotOk F M H s x
  | [], [], n, .nil, i, x, h => by
    simp only [List.map_nil, List.nil_append, List.getElem?_replicate] at h ⊢
    split at h
    · rename_i hi
      cases h
      exact ⟨none, by rw [if_pos hi], trivial⟩
    · cases h
  | v :: vs, d :: ds, n, .cons r rs, 0, x, h => by
    have e : SD.dat d = x := by simpa using h
    subst e
    exact ⟨some v, rfl, v, rfl, by rw [hK]; exact r⟩
  | v :: vs, d :: ds, n, .cons r rs, i + 1, x, h => sl_base hK n rs i x (by simpa using h)
theorem no_own {ds : List D} {n : Nat} {i : Nat} {p : Addr} {es : OD} : (ds.map SD.dat ++ List.replicate n .un)[i]? ≠ some (.own p es) := fun h => by
  have := List.mem_of_getElem? h
  rcases List.mem_append.mp this with h | h
  · obtain ⟨d, _, e⟩ := List.mem_map.mp h
    cases e
  · have := List.eq_of_mem_replicate h
    cases this
section
variable {K : PySem.W.Frag} {N : List Str} {vs : List V} {H : Hp} {Q : VK} {E : XK} {t : TS} {Pre : List D → Prop} {Post : List D → D → Prop}
theorem enterD (hs : spD K Pre Post vs H Q E) (hb : ∀ (M : Addr → Bool) (ds : List D), Pre ds → ds.length = vs.length → Do ⟨K, none, M, H, E, 0, []⟩ t (slots N ds) { nx := fun _ => Post ds .non, rt := Post ds }) :
    t { nx := fun _ H' => Q .non H', rt := Q } (L2.start N vs) H := by
  obtain ⟨M, ds, al, r, pre, q⟩ := hs
  have hl := r.length
  have c : Ctx ⟨K, none, M, H, E, 0, []⟩ M (L2.start N vs) H (slots N ds) := by
    refine ⟨al, al, fun _ h => h, StepB.refl _ _, ⟨fun b z => (nomatch z), fun a h => (nomatch h)⟩, ?_, ?_, fun i j p es fs h1 h2 => absurd h1 no_own, fun i p es h => absurd h no_own⟩
    · unfold L2.start slots
      rw [List.length_append, List.length_append, List.length_map, List.length_map, List.length_replicate, List.length_replicate, hl]
    · unfold L2.start slots
      rw [hl]
      exact sl_base rfl _ r
  refine hb M ds pre hl.symm M _ H _ c (fun M' σ' H' δ' p c' s => ?_) (fun v d M' σ' H' δ' p c' s r' => ?_) (fun _ _ _ _ p => p.elim) (fun _ _ _ _ p => p.elim)
  · exact q _ _ H' p (fun a o h => c'.fr a o (mv_none rfl rfl a) h) .non
  · exact q v d H' p (fun a o h => c'.fr a o (mv_none rfl rfl a) h) (r'.mono (same_hd_le fun a h => c'.m0 a h))
theorem enterB (hs : spB K Pre Post vs H Q E) (hb : ∀ (M : Addr → Bool) (b c : Addr) (ds : List D), Pre ds → ds.length + 1 = vs.length → Do ⟨K, some b, M, H, E, c, []⟩ t (slotsB N ds) { nx := fun _ => Post ds .non, rt := Post ds }) :
    t { nx := fun _ H' => Q .non H', rt := Q } (L2.start N vs) H := by
  obtain ⟨M, b, cc, ws, ds, rfl, al, mb, ba, r, pre, q⟩ := hs
  have hl := r.length
  have hc : ∃ o, H cc = some o := by
    obtain ⟨ns, i, z, s, t, _, _, h3, _⟩ := ba
    exact ⟨_, h3⟩
  have c : Ctx ⟨K, some b, M, H, E, cc, []⟩ M (L2.start N (.ref b :: ws)) H (slotsB N ds) := by
    refine ⟨al, al, fun _ h => h, StepB.refl _ _, ⟨fun b z => ?_, fun a h => (nomatch h)⟩, ?_, fun i x h => ?_, fun i j p es fs h1 h2 => ?_, fun i p es h => ?_⟩
    · cases z
      exact ⟨mb, ba, hc⟩
    · unfold L2.start slotsB
      simp only [List.length_append, List.length_cons, List.length_map, List.length_replicate, hl]
      omega
    · unfold L2.start
      unfold slotsB at h
      cases i with
      | zero =>
        have e : SD.bag = x := by simpa using h
        subst e
        exact ⟨_, rfl, b, rfl, rfl⟩
      | succ i =>
        have h' : (ds.map SD.dat ++ List.replicate (N.length - (ds.length + 1)) .un)[i]? = some x := by simpa using h
        rw [List.length_cons, hl]
        exact sl_base rfl _ r i x h'
    · unfold slotsB at h1
      cases i with
      | zero => cases (show SD.bag = SD.own p es by simpa using h1)
      | succ i => exact absurd (show (ds.map SD.dat ++ List.replicate (N.length - (ds.length + 1)) .un)[i]? = some (.own p es) by simpa using h1) no_own
    · unfold slotsB at h
      cases i with
      | zero => cases (show SD.bag = SD.own p es by simpa using h)
      | succ i => exact absurd (show (ds.map SD.dat ++ List.replicate (N.length - (ds.length + 1)) .un)[i]? = some (.own p es) by simpa using h) no_own
  refine hb M b cc ds pre (by rw [List.length_cons, hl]) M _ H _ c (fun M' σ' H' δ' p c' s => ?_) (fun v d M' σ' H' δ' p c' s r' => ?_) (fun _ _ _ _ p => p.elim) (fun _ _ _ _ p => p.elim)
  · exact q _ _ H' p (fun a o n h => c'.fr a o (mv_bag rfl rfl n) h) (c'.bg.1 b rfl).2.1 .non
  · exact q v d H' p (fun a o n h => c'.fr a o (mv_bag rfl rfl n) h) (c'.bg.1 b rfl).2.1 (r'.mono (same_hd_le fun a h => c'.m0 a h))
end
theorem spD_len {K : PySem.W.Frag} {Pre : List D → Prop} {Post : List D → D → Prop} {n : Nat} (h : ∀ ds, Pre ds → ds.length = n) : ∀ vs H Q E, spD K Pre Post vs H Q E → vs.length = n := fun vs H Q E ⟨M, ds, _, r, p, _⟩ => by rw [r.length, h ds p]
theorem spB_len {K : PySem.W.Frag} {Pre : List D → Prop} {Post : List D → D → Prop} {n : Nat} (h : ∀ ds, Pre ds → ds.length + 1 = n) : ∀ vs H Q E, spB K Pre Post vs H Q E → vs.length = n := fun vs H Q E ⟨M, b, c, ws, ds, e, _, _, _, r, p, _⟩ => by
  subst e
  rw [List.length_cons, r.length, h ds p]

/-! ### operations -/
section
variable {K : PySem.W.Frag} {P : D → Prop} {i j : Int} {x y : D}
theorem od_eq_int (p : P (.bl (decide (i = j)))) : OpD K rEq (.int i) (.int j) P := fun M H v w Q al r1 r2 q => by
  cases r1
  cases r2
  exact ⟨rfl, q _ _ H (show P (.bl (decide (V.int i = V.int j))) by rw [show decide (V.int i = V.int j) = decide (i = j) by rw [dec_int, Bool.beq_eq_decide_eq]]; exact p) (Same.refl H) (.bl _)⟩
theorem od_ne_int (p : P (.bl (!decide (i = j)))) : OpD K rNe (.int i) (.int j) P := fun M H v w Q al r1 r2 q => by
  cases r1
  cases r2
  exact ⟨rfl, q _ _ H (show P (.bl (!decide (V.int i = V.int j))) by rw [show decide (V.int i = V.int j) = decide (i = j) by rw [dec_int, Bool.beq_eq_decide_eq]]; exact p) (Same.refl H) (.bl _)⟩
theorem od_eq_bl {a b : Bool} (p : P (.bl (decide (a = b)))) : OpD K rEq (.bl a) (.bl b) P := fun M H v w Q al r1 r2 q => by
  cases r1
  cases r2
  exact ⟨rfl, q _ _ H (show P (.bl (decide (V.bl a = V.bl b))) by rw [show decide (V.bl a = V.bl b) = decide (a = b) by rw [dec_bl, Bool.beq_eq_decide_eq]]; exact p) (Same.refl H) (.bl _)⟩
theorem od_ne_bl {a b : Bool} (p : P (.bl (!decide (a = b)))) : OpD K rNe (.bl a) (.bl b) P := fun M H v w Q al r1 r2 q => by
  cases r1
  cases r2
  exact ⟨rfl, q _ _ H (show P (.bl (!decide (V.bl a = V.bl b))) by rw [show decide (V.bl a = V.bl b) = decide (a = b) by rw [dec_bl, Bool.beq_eq_decide_eq]]; exact p) (Same.refl H) (.bl _)⟩
theorem od_eq_str {a b : Str} (p : P (.bl (decide (a = b)))) : OpD K rEq (.str a) (.str b) P := fun M H v w Q al r1 r2 q => by
  cases r1
  cases r2
  exact ⟨rfl, q _ _ H (show P (.bl (decide (V.str a = V.str b))) by rw [show decide (V.str a = V.str b) = decide (a = b) by rw [dec_str, Bool.beq_eq_decide_eq]]; exact p) (Same.refl H) (.bl _)⟩
theorem od_ne_str {a b : Str} (p : P (.bl (!decide (a = b)))) : OpD K rNe (.str a) (.str b) P := fun M H v w Q al r1 r2 q => by
  cases r1
  cases r2
  exact ⟨rfl, q _ _ H (show P (.bl (!decide (V.str a = V.str b))) by rw [show decide (V.str a = V.str b) = decide (a = b) by rw [dec_str, Bool.beq_eq_decide_eq]]; exact p) (Same.refl H) (.bl _)⟩
/-- x is None -/
def isNon : D → Bool | .non => true | _ => false
theorem rep_non {H : Hp} {v : V} (r : Rep K H v x) : decide (v = .non) = isNon x := by
  cases r <;> rfl
theorem ud_isN (p : P (.bl (isNon x))) : OpD K (fun x y H Q => y = .non ∧ Q (.bl (decide (x = .non))) H) x .non P := fun M H v w Q al r1 r2 q => by
  have e := rep_non r1
  cases r2
  exact ⟨rfl, by rw [e]; exact q _ _ H p (Same.refl H) (.bl _)⟩
theorem ud_notN (p : P (.bl (!isNon x))) : OpD K (fun x y H Q => y = .non ∧ Q (.bl (!decide (x = .non))) H) x .non P := fun M H v w Q al r1 r2 q => by
  have e := rep_non r1
  cases r2
  exact ⟨rfl, by rw [e]; exact q _ _ H p (Same.refl H) (.bl _)⟩
theorem repL_at {H : Hp} {vs : List V} {ds : List D} {d : D} (r : RepL K H vs ds) (h : atI ds i = some d) : ∃ v, atI vs i = some v ∧ Rep K H v d := by
  unfold atI at h ⊢
  rw [r.length]
  cases e : ixN ds.length i with
  | none => rw [e] at h; cases h
  | some k =>
    rw [e] at h
    exact r.get h
theorem od_ixL {ds : List D} {d : D} (h : atI ds i = some d) (p : P d) : OpD K (rIxL K) (.lst ds) (.int i) P := fun M H v w Q al r1 r2 q => by
  cases r1 with
  | lst h1 h2 =>
    cases r2
    obtain ⟨v, e, r⟩ := repL_at h2 h
    exact ⟨_, _, i, v, rfl, rfl, SqL.of (hd_of h1).2, e, q v d H p (Same.refl H) r⟩
theorem od_ixT {ds : List D} {d : D} (h : atI ds i = some d) (p : P d) : OpD K (rIxT K) (.tup ds) (.int i) P := fun M H v w Q al r1 r2 q => by
  cases r1 with
  | tup h1 h2 =>
    cases r2
    obtain ⟨v, e, r⟩ := repL_at h2 h
    exact ⟨_, _, i, v, rfl, rfl, same_tup (same_hd M H) h1, e, q v d H p (Same.refl H) r⟩
theorem od_ixS {z : Str} {c : Nat} (hz : z.length ≤ 100000) (h : atI z.cps.toList i = some c) (p : P (.str ⟨#[c]⟩)) : OpD K rIxS (.str z) (.int i) P := fun M H v w Q al r1 r2 q => by
  cases r1
  cases r2
  exact ⟨z, i, c, rfl, rfl, sz_of hz, h, q _ _ H p (Same.refl H) (.str _)⟩
theorem atI_nat' {α : Type} {xs : List α} {i : Int} (h0 : 0 ≤ i) (h : i.toNat < xs.length) : atI xs i = some (xs[i.toNat]) := by
  obtain ⟨n, rfl⟩ : ∃ n : Nat, i = (n : Int) := ⟨i.toNat, by omega⟩
  exact atI_nat (by simp)
theorem od_addS {a b : Str} (h : a.length + b.length ≤ 100000) (p : P (.str (a ++ b))) : OpD K (fun x y H Q => ∃ i j, x = .str i ∧ y = .str j ∧ i.length + j.length ≤ sizeLine ∧ Q (.str (i ++ j)) H) (.str a) (.str b) P := fun M H v w Q al r1 r2 q => by
  cases r1
  cases r2
  exact ⟨a, b, rfl, rfl, sz_of h, q _ _ H p (Same.refl H) (.str _)⟩
theorem od_leS {a b : Str} (p : P (.bl (!decide (b.cps.toList < a.cps.toList)))) : OpD K (fun x y H Q => ∃ i j, x = .str i ∧ y = .str j ∧ Q (.bl (!decide (j.cps.toList < i.cps.toList))) H) (.str a) (.str b) P := fun M H v w Q al r1 r2 q => by
  cases r1
  cases r2
  exact ⟨a, b, rfl, rfl, q _ _ H p (Same.refl H) (.bl _)⟩
theorem od_cat {xs ys : List D} (h : xs.length + ys.length ≤ 100000) (p : P (.lst (xs ++ ys))) : OpD K rCat (.lst xs) (.lst ys) P := fun M H v w Q al r1 r2 q => by
  cases r1 with
  | lst h1 h2 =>
    cases r2 with
    | lst h3 h4 =>
      refine ⟨_, _, _, _, rfl, rfl, (hd_of h1).2, (hd_of h3).2, by rw [h2.length, h4.length]; exact sz_of h, fun p' hp => ?_⟩
      exact q _ _ _ p (same_new hp) (.lst (hd_new al hp) ((h2.append h4).mono (same_hdM (same_new hp))))
theorem repL_rep {H : Hp} {vs : List V} {ds : List D} (r : RepL K H vs ds) : ∀ n : Nat, RepL K H (List.replicate n vs).flatten (List.replicate n ds).flatten
  | 0 => .nil
  | n + 1 => by
    rw [List.replicate_succ, List.replicate_succ, List.flatten_cons, List.flatten_cons]
    exact r.append (repL_rep r n)
theorem od_rep {xs : List D} {k : Int} (h0 : 0 ≤ k) (h : k ≤ 100000) (hz : xs.length * k.toNat ≤ 100000) (p : P (.lst (List.replicate k.toNat xs).flatten)) : OpD K rRep (.lst xs) (.int k) P := fun M H v w Q al r1 r2 q => by
  cases r1 with
  | lst h1 h2 =>
    cases r2
    refine ⟨_, k, _, rfl, rfl, (hd_of h1).2, by omega, by omega, by rw [h2.length]; exact sz_of hz, fun p' hp => ?_⟩
    exact q _ _ _ p (same_new hp) (.lst (hd_new al hp) ((repL_rep h2 _).mono (same_hdM (same_new hp))))
/-! slices -/
def cutD (xs : List D) (lo hi : Option Int) : List D := (xs.drop (HT.sIx xs.length 0 lo)).take (HT.sIx xs.length xs.length hi - HT.sIx xs.length 0 lo)
theorem repL_cut {H : Hp} {vs : List V} {ds : List D} (r : RepL K H vs ds) (lo hi : Option Int) : RepL K H (cutV vs lo hi) (cutD ds lo hi) := by
  unfold cutV cutD
  rw [r.length]
  exact (r.drop _).take _
end
def EvO (F : Fm) (to : TO) (δ : List SD) (P : Option Int → Prop) : Prop := ∀ M σ H (Q : Option Int → Hp → Prop), Ctx F M σ H δ →
  (∀ o H', P o → Ctx F M σ H' δ → StepB F.mv H H' → Q o H') → to σ H Q
section
variable {F : Fm} {δ : List SD} {ta tb tc te : TE} {tl th : TO} {tt tu : TT} {P : D → Prop} {PL : List D → Prop} {PO : Option Int → Prop}
theorem eo_none (p : PO none) : EvO F tNoPart δ PO := fun M σ H Q c q => q _ H p c (StepB.refl _ _)
theorem eo_some (h : Ev F te δ fun d => ∃ i, d = .int i ∧ PO (some i)) : EvO F (tPart te) δ PO := fun M σ H Q c q =>
  h M σ H _ c fun v d H1 p c1 e r => by
    obtain ⟨i, rfl, p⟩ := p
    cases r
    exact ⟨i, rfl, q _ H1 p c1 e⟩
theorem ev_slS (h : Ev F te δ fun d => EvO F tl δ fun lo => EvO F th δ fun hi => ∃ z, d = .str z ∧ z.length ≤ 100000 ∧ P (.str (cutS z lo hi))) : Ev F (tSl rSlS te tl th) δ P := fun M σ H Q c q =>
  h M σ H _ c fun v d H1 p c1 e1 r => p M σ H1 _ c1 fun lo H2 p2 c2 e2 => p2 M σ H2 _ c2 fun hi H3 p3 c3 e3 => by
    obtain ⟨z, rfl, hz, p⟩ := p3
    cases r
    exact ⟨z, rfl, sz_of hz, q _ _ H3 p c3 ((e1.trans e2).trans e3) (.str _)⟩
/-- a slice of a list: a new one -/
theorem en_slL (h : Ev F te δ fun d => EvO F tl δ fun lo => EvO F th δ fun hi => ∃ xs, d = .lst xs ∧ PL (cutD xs lo hi)) : EvN F (tSl (rSlL F.K) te tl th) δ PL := fun M σ H Q c q =>
  h M σ H _ c fun v d H1 p c1 e1 r => p M σ H1 _ c1 fun lo H2 p2 c2 e2 => p2 M σ H2 _ c2 fun hi H3 p3 c3 e3 => by
    obtain ⟨xs, rfl, pz⟩ := p3
    have r3 := r.mono ((hd_step c1 e2).trans (hd_step c2 e3))
    cases r3 with
    | lst h1 h2 =>
      refine ⟨_, _, rfl, SqL.of (hd_of h1).2, fun a ha => ?_⟩
      have k := (e1.trans e2).trans e3
      have ha0 : H a = none := by
        cases z : H a with
        | none => rfl
        | some o =>
          have := k a o (c3.nob ha) z
          rw [ha] at this
          cases this
      refine q a _ _ _ pz (c3.hide ha) ha0 (c3.h0 ha) (c3.nob ha) (c3.nown ha) (k.trans (StepB.of (same_new ha))) upd_same ((repL_cut h2 lo hi).mono fun b u e => ?_)
      obtain ⟨m, h⟩ := hd_of e
      have n : b ≠ a := ne_of_none h ha
      exact hd_at (by rw [hid_ne n]; exact m) (by rw [upd_ne n]; exact h)
end
/-! ### calls of built-ins -/
/-- the built-in type of data -/
def tyName : D → Option String
  | .non => some "NoneType" | .bl _ => some "bool" | .int _ => some "int" | .str _ => some "str" | .lst _ => some "list" | .tup _ => some "tuple" | .dic _ => some "dict" | _ => none
def tyNames : List String := ["NoneType", "bool", "int", "str", "list", "tuple", "dict"]
def tyAsk : List String := ["bool", "int", "str", "list", "tuple", "dict"]
/-- isinstance by names -/
def isTy (a n : String) : Bool := a == n || (a == "bool" && n == "int")
theorem kit_all : (tyNames.all fun a => tyAsk.all fun n => decide (kitB a n = some (isTy a n))) = true := by decide +kernel
theorem kit_isTy {a n : String} (ha : a ∈ tyNames) (hn : n ∈ tyAsk) : kitB a n = some (isTy a n) :=
  of_decide_eq_true (List.all_eq_true.mp (List.all_eq_true.mp kit_all a ha) n hn)
theorem tyName_mem {d : D} {a : String} (h : tyName d = some a) : a ∈ tyNames := by
  cases d <;> simp only [tyName, Option.some.injEq, reduceCtorEq] at h <;> (subst h; decide)
theorem tyX_of {K : PySem.W.Frag} {H : Hp} {v : V} {d : D} {a : String} (r : Rep K H v d) (h : tyName d = some a) : TyX K H v (.type a) := by
  cases r with
  | non => cases h; exact .base .non
  | bl b => cases h; exact .base (.bl b)
  | int i => cases h; exact .base (.int i)
  | str x => cases h; exact .base (.str x)
  | lst h1 _ => cases h; exact .base (.lst h1)
  | tup h1 _ =>
    cases h
    rcases h1 with (h1 | ⟨o, h1⟩) | ⟨o, its, n, h1, h2, _⟩
    · exact .base (.tup h1)
    · exact .fTuple h1
    · exact .kTuple h1 h2
  | dic h1 _ => cases h; exact .base (.dK h1)
  | ins h1 _ => cases h
  | ty n => cases h
  | adr a => cases h
  | exc h1 h2 _ => cases h
  | fn _ _ => cases h
theorem TyX.mono {K : PySem.W.Frag} {M : Addr → Bool} {H : Hp} {v : V} {d : D} {a : String} (r : Rep K (hd M H) v d) (h : tyName d = some a) : TyX K H v (.type a) := tyX_of (r.mono (same_hd M H)) h
/-- isinstance of a type and of a tuple of types, on data -/
def isD (d : D) (n : String) : Bool := match tyName d with | some a => isTy a n | none => false
section
variable {K : PySem.W.Frag} {P : D → Prop} {i j : Int} {x y : D} {n : String}
theorem cd_isi {a : String} (hx : tyName x = some a) (hn : n ∈ tyAsk) (p : P (.bl (isD x n))) : CallD K (rIsi K) [x, .ty n] P := fun M H vs Q al r q => by
  cases r with
  | cons r1 r2 =>
    cases r2 with
    | cons r2 r3 =>
      cases r3
      cases r2
      have e : isD x n = isTy a n := by unfold isD; rw [hx]
      exact ⟨_, _, .type a, .type n, isTy a n, rfl, .ty n, TyX.mono r1 hx, kit_ty (kit_isTy (tyName_mem hx) hn), by rw [← e]; exact q _ _ H p (Same.refl H) (.bl _)⟩
/-- the length of data -/
def lenD : D → Option Nat
  | .str z => some z.length | .lst xs => some xs.length | .tup xs => some xs.length | _ => none
theorem cd_len {k : Nat} (h : lenD x = some k) (hz : k ≤ 100000) (p : P (.int (k : Int))) : CallD K (fun xs H Q => ∃ x n, xs = [x] ∧ LenV K x H n ∧ Q (.int (n : Nat)) H) [x] P := fun M H vs Q al r q => by
  cases r with
  | cons r1 r2 =>
    cases r2
    refine ⟨_, k, rfl, ?_, q _ _ H p (Same.refl H) (.int _)⟩
    cases r1 with
    | str z => cases h; exact ⟨sz_of hz, rfl⟩
    | lst h1 h2 => cases h; exact .inl ⟨_, SqL.of (hd_of h1).2, h2.length.symm⟩
    | tup h1 h2 => cases h; exact .inr ⟨_, same_tup (same_hd M H) h1, h2.length.symm⟩
    | _ => cases h
def blD (bs : List Bool) : List D := bs.map .bl
theorem repL_bl {H : Hp} : ∀ {vs : List V} {bs : List Bool}, RepL K H vs (blD bs) → vs = bs.map V.bl
  | _, [], .nil => rfl
  | _, b :: bs, .cons (.bl _) r => by rw [List.map_cons, repL_bl (bs := bs) r]
theorem cd_all {bs : List Bool} (p : P (.bl (bs.all id))) : CallD K (rAll K) [.lst (blD bs)] P := fun M H vs Q al r q => by
  cases r with
  | cons r1 r2 =>
    cases r2
    cases r1 with
    | lst h1 h2 =>
      have e := repL_bl h2
      subst e
      exact ⟨_, bs, rfl, SqL.of (hd_of h1).2, q _ _ H p (Same.refl H) (.bl _)⟩
theorem cd_any {bs : List Bool} (p : P (.bl (bs.any id))) : CallD K (rAny K) [.lst (blD bs)] P := fun M H vs Q al r q => by
  cases r with
  | cons r1 r2 =>
    cases r2
    cases r1 with
    | lst h1 h2 =>
      have e := repL_bl h2
      subst e
      exact ⟨_, bs, rfl, SqL.of (hd_of h1).2, q _ _ H p (Same.refl H) (.bl _)⟩
end
end Pf

namespace PySem
open AutoSeq1 (wpAny_loadPart')
/-! enumerate of a tuple -/
theorem enumT_new (l : Addr) (items : Array Value) (n : Nat) (dct : Option Addr) (sl : Array (Option Value)) :
    Meets (Builtin.«enumerate.__new__» ⟨[.type "enumerate", .ref l], []⟩) (fun _ R s => s.heap.get? l = some { cls := .type "tuple", dict := dct, data := .seq items n, slots := sl } ∧
      R (.ok (.ret (.ref (s.heap.push { cls := .type "tuple_iterator", data := .fields #[.ref l, .int 0 0] }).objs.size)))
        { s with heap := (s.heap.push { cls := .type "tuple_iterator", data := .fields #[.ref l, .int 0 0] }).push { cls := .type "enumerate", data := .fields #[.none, .bool false, .ref s.heap.objs.size, rawInt 0, .none, .none] } }) :=
  .of_wp fun prog w A R s h => by
    obtain ⟨hp, g, d, tk, os⟩ := s; obtain ⟨hl, h⟩ := h
    have hsub := sub_enumerate
    have hL : Heap.IsTuple (Shared.heap ⟨hp, g, d, tk, os⟩) l items := ⟨_, hl, rfl, n, rfl⟩
    wp_walk using wpAny_loadPart' hl
    refine wpAny_stack_any fun st => wpAny_pure ?_
    split
    · rename_i c _ _ _ _ _
      cases (c == Value.type "enumerate")
      · wp_walk using wpAny_loadPart' hl, wpAny_pyIter_tuple hL
        exact ⟨_, rfl, h⟩
      · wp_walk using wpAny_loadPart' hl, wpAny_pyIter_tuple hL
        exact ⟨_, rfl, h⟩
    · wp_walk using wpAny_loadPart' hl, wpAny_pyIter_tuple hL
      exact ⟨_, rfl, h⟩
theorem enumT_call {prog : Program} {w : World} {A : Around} {E : Value → Shared → Prop} {s : Shared} {l : Addr} {items : Array Value} {Q : Value → Shared → Prop} (hL : s.heap.IsTuple l items)
    (h : ∀ h', IsEnum h' (s.heap.objs.size + 1) s.heap.objs.size 0 .none → h'.IsTupleIter s.heap.objs.size l 0 → h'.objs.size = s.heap.objs.size + 2 →
      (∀ b o, s.heap.get? b = some o → h'.get? b = some o) → Q (.ref (s.heap.objs.size + 1)) { s with heap := h' }) :
    wpAny (model prog w) A (call (.type "enumerate") [.ref l]) Q E s := by
  obtain ⟨⟨c, dct, dt, sl⟩, hl, hc, n, hd⟩ := hL
  replace hc : c = .type "tuple" := hc
  replace hd : dt = .seq items n := hd
  subst hc hd
  refine callType_new F.called_enumerate (by decide) (F.typeCall_enumerate_1 _) (F.newCall_enumerate_1 _) (fun obj => F.args_object_init_2 obj _) F.entry_enumerate_new
    (enumT_new l items n dct sl) ⟨hl, ?_⟩
  have hz : (s.heap.push { cls := .type "tuple_iterator", data := .fields #[.ref l, .int 0 0] }).objs.size = s.heap.objs.size + 1 := Heap.size_push ..
  show _ ∧ _
  rw [hz]
  have he : IsEnum ((s.heap.push { cls := .type "tuple_iterator", data := .fields #[.ref l, .int 0 0] }).push
      { cls := .type "enumerate", data := .fields #[.none, .bool false, .ref s.heap.objs.size, rawInt 0, .none, .none] }) (s.heap.objs.size + 1) s.heap.objs.size 0 .none := by
    have := Heap.get?_push_size (s.heap.push { cls := .type "tuple_iterator", data := .fields #[.ref l, .int 0 0] })
      (o := { cls := .type "enumerate", data := .fields #[.none, .bool false, .ref s.heap.objs.size, rawInt 0, .none, .none] }) rfl
    rw [hz] at this; exact this
  refine ⟨⟨_, he, rfl⟩, h _ he ⟨_, Heap.get?_push_of_some _ (Heap.get?_push_size _ rfl), rfl, rfl⟩ (by rw [Heap.size_push, hz]) fun b o x => Heap.get?_push_of_some _ (Heap.get?_push_of_some _ x)⟩
theorem enumT_end {prog : Program} {w : World} {A : Around} {E : Value → Shared → Prop} {s : Shared} {e it l : Addr} {i : Nat} {items : Array Value} {old : Value} {Q : Option Value → Shared → Prop} (hh : A.handled = none)
    (he : IsEnum s.heap e it i old) (hit : s.heap.IsTupleIter it l i) (hl : s.heap.IsTuple l items) (hx : items[i]? = none)
    (hQ : ∀ h', Heap.ExtBut it s.heap h' → Q none { s with heap := h' }) : wpAny (model prog w) A (pyNext (.ref e)) Q E s := by
  have hT : s.TypeIs (.ref e) "enumerate" := ⟨_, he, rfl⟩
  unfold pyNext
  refine wpAny_bind (wpAny_attempt (wpAny_callSpecial?_slot (name := Str.ofString "__next__") hT F.slot_enumerate_next
    (wpAny_call_entry F.slot_enumerate_next hT F.entry_enumerate_next ?_ (F.args_enumerate_next_1 _))))
  show wpAny _ _ (field (.ref e) 2 >>= _) _ _ _
  refine wpAny_bind (wpAny_field he rfl (x := .ref it) rfl ?_)
  refine wpAny_bind (wpAny_nextOf_tuple_end hh hit hl hx fun h' x he' hx' => ?_)
  obtain ⟨o, ho, hc⟩ := hx'
  refine wpAny_bind (wpAny_isInstance (T := "StopIteration") (b := true) ⟨o, ho, hc⟩ isSubtype_stop ?_)
  exact wpAny_pure (hQ _ he')
end PySem
namespace Pf
open PySem L2 RZ PySem.Spec PyProof.Rows
/-- the tuple at a, each item in a new pair with its number -/
def IteT (K : PySem.W.Frag) (a : Addr) : It :=
  ⟨fun i H => ∃ (xs : List V) (x : V), SqT K H a xs ∧ xs[i]? = some x, fun i H v H' => ∃ T x, v = .ref T ∧ H T = none ∧ H' = upd H T (.tup [.int (i : Nat), x]) ∧ ∀ xs, SqT K H a xs → xs[i]? = some x, fun i H => ∃ xs : List V, SqT K H a xs ∧ xs.length ≤ i⟩
theorem turn_enumT {P : Program} {w : World} {K : PySem.W.Frag} {elts : List Expr} {kk : Nat} {tpos : Pos} (a e it : Addr) (hai : a ≠ it) (hae : a ≠ e) :
    Turn P w K (.Tuple elts kk tpos) (IteT K a) [e, it] e (fun i h => (∃ old, IsEnum h e it ((i : Nat) : Int) old) ∧ h.IsTupleIter it a i ∧ e ≠ it) where
  mem := by simp
  obj := fun i h st b hb => by
    obtain ⟨⟨old, he⟩, ⟨o, ho, hc, hd⟩, _⟩ := st
    have e' : b = e ∨ b = it := by simpa using hb
    rcases e' with z | z
    · rw [z]; exact ⟨_, he, fun v q => nomatch q⟩
    · rw [z]; exact ⟨o, ho, fun v q => by rw [hd] at q; cases q⟩
  keep := fun i h h' st k => let ⟨⟨old, he⟩, hi, hne⟩ := st; ⟨⟨old, k e (by simp) _ he⟩, hi.at fun o q => k it (by simp) o q, hne⟩
  item := by
    intro X hP hw hK hc i pins s σ H E I hf st hg
    subst hP hw hK
    obtain ⟨⟨old, he⟩, hit, hne⟩ := st
    obtain ⟨xs, x, hq, hx⟩ := hg
    obtain ⟨its, rv, p, hz⟩ := I.tuple hq
    obtain ⟨u, hu, ru⟩ := rv.get hx
    have hlt : i < its.toArray.size := by
      have := (List.getElem?_eq_some_iff.mp hu).1
      simpa using this
    have hel : e < s.heap.objs.size := Heap.lt_size he
    have hil : it < s.heap.objs.size := by obtain ⟨_, q, _⟩ := hit; exact Heap.lt_size q
    refine wpAny_pyNext_enum_itemC (Draws.tuple (A := X.A.in1) (show X.A.in1.handled = none from I.ok.hd hc) it a hai its.toArray) he (i := i) ⟨hit, p⟩ hlt hne (by simp only [List.mem_cons, List.not_mem_nil, or_false, not_or]; exact ⟨hne, Ne.symm hae⟩) fun x' h' tk hx' ho hst' hT hsz hk => ?_
    have ex : x' = u := by
      have : its.toArray[i]? = some u := by simpa using hu
      exact Option.some.inj (hx'.symm.trans this)
    subst ex
    refine ⟨_, rfl, wpAny_letOwnedTupleGo_enum (s := { s with heap := h', toks := tk + 1 }) ho fun h'' he' sb => ?_⟩
    have hT2 : h''.get? s.heap.objs.size = some { cls := .type "tuple", data := .seq #[.int i tk, x'] } := (sb.2 _ (Nat.ne_of_gt hel)).trans hT
    have new : ObjOk X.prog X.w (upd H s.heap.objs.size (.tup [.int (i : Nat), x])) h'' s.heap.objs.size (.tup [.int (i : Nat), x]) :=
      ⟨by show 2 ≤ sizeLine; decide, [.int i tk, x'], .cons ⟨_, rfl⟩ (.cons ru .nil), ⟨_, hT2, rfl, _, rfl⟩⟩
    have I1 : Inv X pins σ (upd H s.heap.objs.size (.tup [.int (i : Nat), x])) { s with heap := h'', toks := tk + 1 } :=
      I.turnedNew (ch := [e, it]) (fun b ob hb q => (sb.2 b (fun z => hb (by simp [z]))).trans (hk b ob (fun z => hb (by simp [z])) (fun z => hb (by simp [z])) q)) hf (Nat.le_refl _) new
    refine ⟨.ref s.heap.objs.size, _, I1, rfl, ⟨_, x, rfl, I.hok.fresh (Nat.le_refl _), rfl, fun ys hy => by rw [I.tuple_inj hy hq]; exact hx⟩, ⟨⟨x', ?_⟩, hst'.1.at fun o q => (sb.2 it (Ne.symm hne)).trans q, hne⟩, fun b hb => ?_⟩
    · have e1 : ((i + 1 : Nat) : Int) = (i : Int) + 1 := by omega
      rw [e1]; exact he'
    · have hb' : b < s.heap.objs.size := by
        have e' : b = e ∨ b = it := by simpa using hb
        rcases e' with z | z
        · rw [z]; exact hel
        · rw [z]; exact hil
      rw [upd_ne (Nat.ne_of_lt hb')]
      exact (hf b hb).1
  done := by
    intro X hP hw hK hc i pins s σ H E I hf st hg
    subst hP hw hK
    obtain ⟨⟨old, he⟩, hit, hne⟩ := st
    obtain ⟨xs, hq, hx⟩ := hg
    obtain ⟨its, rv, p, hz⟩ := I.tuple hq
    obtain ⟨f0, f1, f2, f3, f4, f5⟩ := hf it (by simp)
    have hl := rv.length
    have hno : its.toArray[i]? = none := by simp; omega
    exact enumT_end (I.ok.hd hc) he hit p hno fun h' eb => ⟨rfl, I.turned (t' := s.toks) (fun b o hb q => eb b o hb q) f0 f1 f3 f4 f5⟩
  self := fun A i s Q E st h => let ⟨⟨_, he⟩, _⟩ := st; wpAny_pyIter_enum he h
def iEnumA (K : PySem.W.Frag) (ta : TA) : TI := fun σ H R => ta σ H fun vs H1 => ∃ a xs, vs = [.ref a] ∧ ((SqL K H1 a xs ∧ R (Ite K a) H1) ∨ (SqT K H1 a xs ∧ R (IteT K a) H1))
theorem pi_enumA {X : Cx} {e : Expr} {ta : TA} {p pos tpos : Pos} {elts : List Expr} {kk : Nat} (K : PySem.W.Frag) (hg : Gl X "enumerate") (hm : X.mg "enumerate" = none) (ha : PA X [e] ta) (hs : starEach [e] X.env = [(false, eval e X.env)] := by rfl) (hK : X.K = K := by rfl) :
    PI X (.Tuple elts kk tpos) (.Call (.Name "enumerate" p) [e] [] pos) (iEnumA K ta) := by
  subst hK
  refine ⟨fun pins s σ H R I h => ?_⟩
  refine Call_ (ld_blt I hg hm boot_enumerate (PyProof.Rows.callWith_type1 (thn (ha.run pos pins s σ H _ I h) fun us s1 ⟨vs, H1, I1, r1, q1⟩ => ?_) hs rfl))
  obtain ⟨a, xs, ex, q1⟩ := q1
  subst ex
  cases r1 with
  | cons r rr =>
    cases rr
    cases r
    have hle : ∀ b ∈ [s1.heap.objs.size + 1, s1.heap.objs.size], s1.heap.objs.size ≤ b := fun b hb => by
      have e' : b = s1.heap.objs.size + 1 ∨ b = s1.heap.objs.size := by simpa using hb
      rcases e' with z | z
      · rw [z]; exact Nat.le_add_right _ _
      · rw [z]; exact Nat.le_refl _
    rcases q1 with ⟨hq, q⟩ | ⟨hq, q⟩
    · obtain ⟨its, rv, p', hz⟩ := I1.list hq
      refine call_enumerate_list p'.isList fun h' he hit hsz hk => wpAny_pyIter_enum he ?_
      have I2 : Inv X pins σ H1 { s1 with heap := h' } := I1.kept (t' := s1.toks) hk
      exact ⟨s1.heap.objs.size + 1, [s1.heap.objs.size + 1, s1.heap.objs.size], _, _, H1, rfl, I2, turn_enum a (s1.heap.objs.size + 1) s1.heap.objs.size, ⟨⟨.none, he⟩, hit, Nat.succ_ne_self _⟩, fun b hb => I1.fpOk (hle b hb) (I1.hok.fresh (hle b hb)), q⟩
    · obtain ⟨its, rv, p', hz⟩ := I1.tuple hq
      refine enumT_call p' fun h' he hit hsz hk => wpAny_pyIter_enum he ?_
      have I2 : Inv X pins σ H1 { s1 with heap := h' } := I1.kept (t' := s1.toks) hk
      have hal : a < s1.heap.objs.size := by obtain ⟨o, ho, _⟩ := p'; exact Heap.lt_size ho
      exact ⟨s1.heap.objs.size + 1, [s1.heap.objs.size + 1, s1.heap.objs.size], _, _, H1, rfl, I2, turn_enumT a (s1.heap.objs.size + 1) s1.heap.objs.size (Nat.ne_of_lt hal) (Nat.ne_of_lt (Nat.lt_succ_of_lt hal)), ⟨⟨.none, he⟩, hit, Nat.succ_ne_self _⟩, fun b hb => I1.fpOk (hle b hb) (I1.hok.fresh (hle b hb)), q⟩
theorem walk_enumT {K : PySem.W.Frag} {a : Addr} {xs : List V} : Walk (IteT K a) xs.length (fun H => SqT K H a xs) (YPair (fun i => some (.int (i : Nat))) (fun i => xs[i]?)) := by
  refine ⟨fun i _ hi q => ⟨xs, xs[i], q, by simp [hi]⟩, fun _ q => ⟨xs, q, Nat.le_refl _⟩, fun i H v H' _ q y => ?_⟩
  obtain ⟨T, x, h1, h2, h3, h4⟩ := y
  exact ⟨T, .int (i : Nat), x, h1, h2, h3, rfl, h4 xs q⟩
/-! a sequence that is borrowed -/
theorem numbered_get {xs : List D} {i : Nat} {f : D} (e3 : xs[i]? = some f) : (numbered xs)[i]? = some (.tup [.int (i : Nat), f]) := by
  have hi := (List.getElem?_eq_some_iff.mp e3).1
  unfold numbered
  rw [List.getElem?_map, List.getElem?_range hi]
  show some (D.tup [.int (i : Nat), xs.getD i .non]) = _
  rw [show xs.getD i .non = f by simp [List.getD, e3]]
theorem numbered_len {xs : List D} : (numbered xs).length = xs.length := by simp [numbered]
section
variable {F : Fm} {δ : List SD} {M : Addr → Bool} {σ : L2.St} {H : Hp} {PX : List D → Prop} {ta : TA} {te : TE} {P : D → Prop}
end
end Pf

namespace Pf
open PySem L2 RZ PySem.Spec PyProof.Rows PySem.W PySem.Calls
/-! ### sorted of a list or a tuple of alike data -/
/-! as a rule of the layer -/
/-! data as the library tells it -/
mutual
def pyd : D → PyData
  | .bl b => .bool b | .int i => .int i | .str x => .str x
  | .lst xs => .list (pydL xs) | .tup xs => .tuple (pydL xs)
  | _ => .none
def pydL : List D → List PyData
  | [] => []
  | x :: xs => pyd x :: pydL xs
end
mutual
/-- none, bools, ints, texts, lists and tuples of these -/
def plainD : D → Bool
  | .non => true | .bl _ => true | .int _ => true | .str _ => true
  | .lst xs => plainL xs | .tup xs => plainL xs
  | _ => false
def plainL : List D → Bool
  | [] => true
  | x :: xs => plainD x && plainL xs
end
structure SortOk (ds : List D) : Prop where
  pl : plainL ds = true
  al : AllAlike (ds.map pyd)
  so : PySem.W.Sortable (ds.map pyd)
  dp : ∀ d ∈ ds, (pyd d).depth ≤ 60
section
variable {F : Fm} {δ : List SD} {te : TE} {PL : List D → Prop}
end
end Pf

namespace Pf
open PySem L2 RZ PySem.Spec PyProof.Rows
/-! ### dicts -/
def valD (kvs : List (Key × D)) (k : Key) : Option D := (kvs.find? fun kv => decide (kv.1 = k)).map (·.2)
def putD (kvs : List (Key × D)) (k : Key) (v : D) : List (Key × D) :=
  if (kvs.any fun kv => decide (kv.1 = k)) = true then kvs.map (fun kv => if kv.1 = k then (kv.1, v) else kv) else kvs ++ [(k, v)]
section
variable {K : PySem.W.Frag} {H : Hp}
theorem RepK.val : ∀ {vs : List (Key × V)} {ds : List (Key × D)} (k : Key), RepK K H vs ds → (valD ds k = none → valV vs k = none) ∧ ∀ d, valD ds k = some d → ∃ v, valV vs k = some v ∧ Rep K H v d
  | _, _, k, .nil => ⟨fun _ => rfl, fun d h => by simp [valD] at h⟩
  | _, _, k, .cons (k := k0) (v := v0) (vs := vs) (d := d0) (ds := ds) h r => by
    by_cases e : k0 = k
    · subst e
      refine ⟨fun h => by simp [valD] at h, fun d hd => ⟨v0, by simp [valV], ?_⟩⟩
      have : d0 = d := by simpa [valD] using hd
      rw [← this]
      exact h
    · have e1 : valV ((k0, v0) :: vs) k = valV vs k := by simp [valV, List.find?_cons, e]
      have e2 : valD ((k0, d0) :: ds) k = valD ds k := by simp [valD, List.find?_cons, e]
      rw [e1, e2]
      exact RepK.val k r
theorem RepK.any : ∀ {vs : List (Key × V)} {ds : List (Key × D)} (k : Key), RepK K H vs ds → (vs.any fun kv => decide (kv.1 = k)) = (ds.any fun kv => decide (kv.1 = k))
  | _, _, k, .nil => rfl
  | _, _, k, .cons h r => by rw [List.any_cons, List.any_cons, RepK.any k r]
theorem RepK.length : ∀ {vs : List (Key × V)} {ds : List (Key × D)}, RepK K H vs ds → vs.length = ds.length
  | _, _, .nil => rfl
  | _, _, .cons _ r => congrArg Nat.succ (RepK.length r)
theorem RepK.snoc : ∀ {vs : List (Key × V)} {ds : List (Key × D)} {k : Key} {v : V} {d : D}, RepK K H vs ds → Rep K H v d → RepK K H (vs ++ [(k, v)]) (ds ++ [(k, d)])
  | _, _, k, v, d, .nil, h => .cons h .nil
  | _, _, k, v, d, .cons h0 r, h => .cons h0 (RepK.snoc r h)
theorem RepK.repl : ∀ {vs : List (Key × V)} {ds : List (Key × D)} (k : Key) {v : V} {d : D}, RepK K H vs ds → Rep K H v d → RepK K H (vs.map fun kv => if kv.1 = k then (kv.1, v) else kv) (ds.map fun kv => if kv.1 = k then (kv.1, d) else kv)
  | _, _, k, v, d, .nil, h => .nil
  | _, _, k, v, d, .cons (k := k0) h0 r, h => by
    rw [List.map_cons, List.map_cons]
    by_cases e : k0 = k
    · simp only [e, if_true]
      exact .cons h (RepK.repl k r h)
    · simp only [e, if_false]
      exact .cons h0 (RepK.repl k r h)
theorem RepK.put {vs : List (Key × V)} {ds : List (Key × D)} {k : Key} {v : V} {d : D} (r : RepK K H vs ds) (h : Rep K H v d) : RepK K H (putK vs k v) (putD ds k d) := by
  unfold putK putD
  rw [RepK.any k r]
  by_cases e : (ds.any fun kv => decide (kv.1 = k)) = true
  · rw [if_pos e, if_pos e]
    exact RepK.repl k r h
  · rw [if_neg e, if_neg e]
    exact RepK.snoc r h
end
section
variable {F : Fm} {δ : List SD} {te tv td ty : TE} {P : D → Prop} {R : PD} {tt : TT}
end
/-! ### instances -/
def putFD (f : Str) (v : D) : List (Str × D) → List (Str × D)
  | [] => [(f, v)]
  | (g, x) :: r => if g = f then (g, v) :: r else (g, x) :: putFD f v r
theorem RepF.put {K : PySem.W.Frag} {H : Hp} {f : Str} {v : V} {d : D} (h : Rep K H v d) : ∀ {vs : List (Str × V)} {ds : List (Str × D)}, RepF K H vs ds → RepF K H (putF f v vs) (putFD f d ds)
  | _, _, .nil => .cons h .nil
  | _, _, .cons (k := k) h0 r => by
    unfold putF putFD
    by_cases e : k = f
    · rw [if_pos e, if_pos e]
      exact .cons h r
    · rw [if_neg e, if_neg e]
      exact .cons h0 (RepF.put h r)
theorem RepF.length {K : PySem.W.Frag} {H : Hp} : ∀ {vs : List (Str × V)} {ds : List (Str × D)}, RepF K H vs ds → vs.length = ds.length
  | _, _, .nil => rfl
  | _, _, .cons _ r => congrArg Nat.succ (RepF.length r)
section
variable {F : Fm} {δ : List SD} {ta : TA} {te tv : TE} {P : D → Prop} {R : PD} {C : Addr} {f : Str} {E : XK}
theorem do_fset {i : Nat} {p : Addr} {fs : List (Str × D)} (hi : δ[i]? = some (.own p (.ins C fs))) (cl : Cls F.K C) (na : NoAttr F.K C f) (hl : fs.length < 1000) (h : Ev F tv δ fun v => R.nx (δ.set i (.own p (.ins C (putFD f v fs))))) :
    Do F (sFld F.K (tVar i) tv f) δ R := fun M σ H E c a b k d => by
  refine h M σ H _ c fun v x H1 p1 c1 e1 r1 => ?_
  obtain ⟨s, hs, e, m, ho, hp, rr⟩ := c1.sl i _ hi
  subst e
  cases rr with
  | @ins _ dx vs _ rr =>
    refine ⟨_, hs, p, C, dx, vs, rfl, hp, cl, na, by rw [rr.length]; exact hl, ?_⟩
    refine a M σ _ _ p1 (c1.put hi (.ins (rr.put r1))) ?_
    rw [hd_upd m]
    exact hd_step c e1
theorem ev_fld (cl : Cls F.K C) (na : NoAttr F.K C f) (h : Ev F te δ fun x => ∃ fs d, x = .ins C fs ∧ fs.lookup f = some d ∧ P d) : Ev F (tFld F.K te f) δ P := fun M σ H Q c q =>
  h M σ H _ c fun v x H1 p1 c1 e1 r1 => by
    obtain ⟨fs, d, rfl, hd', p1⟩ := p1
    cases r1 with
    | @ins a _ dx vs _ h1 rr =>
      obtain ⟨u, g1, g2⟩ := rr.get hd'
      exact ⟨a, C, dx, vs, u, rfl, (hd_of h1).2, cl, na, g1, q u d H1 p1 c1 e1 g2⟩
theorem same_made {H1 : Hp} {x dx : Addr} {C : Addr} (hx : H1 x = none) (hdx : H1 dx = none) : Same H1 (upd (upd H1 dx (.own x)) x (.ins C dx [])) := fun a o e => by
  rw [upd_ne (ne_of_none e hx), upd_ne (ne_of_none e hdx)]
  exact e
end
/-! ### into an __init__ -/
def slotsI (N : List Str) (x : Addr) (C : Addr) (ds : List SD) : List SD := .own x (.ins C []) :: (ds ++ List.replicate (N.length - (ds.length + 1)) .un)
theorem al_of_none {M : Addr → Bool} {H : Hp} {p : Addr} (al : Al M H) (hp : H p = none) : M p = false := by
  cases e : M p with
  | true =>
    obtain ⟨u, h⟩ := al p e
    rw [hp] at h
    cases h
  | false => rfl
/-- what the slots behind the first bear -/
theorem ctxI {K : PySem.W.Frag} {M : Addr → Bool} {H1 : Hp} {x dx C : Addr} {E : XK} {N : List Str} {ws : List V} {sds : List SD} (hx : H1 x = none) (hdx : H1 dx = none) (ne : dx ≠ x) (al : Al M H1) (hl : ws.length = sds.length)
    (hs : ∀ (i : Nat) (y : SD), sds[i]? = some y → ∃ v, ws[i]? = some v ∧ SlotOk ⟨K, none, M, H1, E, 0, []⟩ (hid M x) (upd (upd H1 dx (.own x)) x (.ins C dx [])) (some v) y) (hn : ∀ (i : Nat) (p : Addr) (o : OD), sds[i]? ≠ some (.own p o)) :
    Ctx ⟨K, none, M, H1, E, 0, []⟩ (hid M x) (L2.start N (.ref x :: ws)) (upd (upd H1 dx (.own x)) x (.ins C dx [])) (slotsI N x C sds) := by
  have s1 := same_made (C := C) hx hdx
  have key : ∀ (i : Nat) (y : SD), (sds ++ List.replicate (N.length - (sds.length + 1)) .un)[i]? = some y → (∃ v, (ws.map some ++ List.replicate (N.length - (ws.length + 1)) none)[i]? = some v ∧ SlotOk ⟨K, none, M, H1, E, 0, []⟩ (hid M x) (upd (upd H1 dx (.own x)) x (.ins C dx [])) v y) ∧ ∀ p o, y ≠ .own p o := fun i y h => by
    by_cases hi : i < sds.length
    · rw [List.getElem?_append_left hi] at h
      obtain ⟨v, g1, g2⟩ := hs i y h
      refine ⟨⟨some v, ?_, g2⟩, fun p o e => hn i p o (e ▸ h)⟩
      rw [List.getElem?_append_left (by rw [List.length_map, hl]; exact hi), List.getElem?_map, g1]
      rfl
    · have hi := Nat.le_of_not_lt hi
      rw [List.getElem?_append_right hi] at h
      have hy : y = .un := List.eq_of_mem_replicate (List.mem_of_getElem? h)
      have hlt := (List.getElem?_eq_some_iff.mp h).1
      rw [List.length_replicate] at hlt
      subst hy
      refine ⟨⟨none, ?_, trivial⟩, fun p o e => by cases e⟩
      rw [List.getElem?_append_right (by rw [List.length_map, hl]; exact hi), List.length_map, hl, List.getElem?_replicate, if_pos hlt]
  refine ⟨fun a m => ?_, al, fun a m => hid_le a m, StepB.of s1, ⟨fun b z => (nomatch z), fun a h => (nomatch h)⟩, ?_, fun i y h => ?_, fun i j p o o' h1 h2 => ?_, fun i p o h => ?_⟩
  · by_cases e : a = x
    · subst e
      exact ⟨_, upd_same⟩
    · rw [hid_ne e] at m
      obtain ⟨o, h⟩ := al a m
      exact ⟨o, s1 _ _ h⟩
  · unfold L2.start slotsI
    simp only [List.length_append, List.length_cons, List.length_map, List.length_replicate, hl]
    omega
  · unfold slotsI at h
    unfold L2.start
    cases i with
    | zero =>
      have e : SD.own x (.ins C []) = y := by simpa using h
      subst e
      exact ⟨_, rfl, rfl, hid_same, _, upd_same, .ins .nil⟩
    | succ i =>
      obtain ⟨⟨v, g1, g2⟩, _⟩ := key i y (by simpa using h)
      exact ⟨v, by simpa using g1, g2⟩
  · unfold slotsI at h1 h2
    cases i with
    | zero =>
      cases j with
      | zero => rfl
      | succ j => exact absurd rfl ((key j _ (by simpa using h2)).2 _ _)
    | succ i => exact absurd rfl ((key i _ (by simpa using h1)).2 _ _)
  · unfold slotsI at h
    cases i with
    | zero =>
      have e : SD.own x (.ins C []) = .own p o := by simpa using h
      cases e
      exact ⟨hx, mv_none rfl rfl _⟩
    | succ i => exact absurd rfl ((key i _ (by simpa using h)).2 _ _)
theorem hid_mono {M : Addr → Bool} {H1 H : Hp} {x : Addr} (hx : H1 x = none) (s : Same H1 H) : Same (hd M H1) (hd (hid M x) H) := fun a o e => by
  obtain ⟨m, h⟩ := hd_of e
  exact hd_at (by rw [hid_ne (ne_of_none h hx)]; exact m) (s _ _ h)
section
variable {K : PySem.W.Frag} {N : List Str} {vs : List V} {H : Hp} {Q : VK} {E : XK} {t : TS} {C : Addr}
theorem leaveI {M M' : Addr → Bool} {H1 H' : Hp} {x : Addr} {σ' : L2.St} {δ' : List SD} {fs : List (Str × D)} (hx : H1 x = none) (al : Al M H1) (c' : Ctx ⟨K, none, M, H1, E, 0, []⟩ M' σ' H' δ') (h0 : δ'[0]? = some (.own x (.ins C fs))) :
    Same H1 H' ∧ Rep K (hd M H') (.ref x) (.ins C fs) := by
  refine ⟨fun a o h => c'.fr a o (mv_none rfl rfl a) h, ?_⟩
  obtain ⟨s, h1, e, m, ho, hp, r⟩ := c'.sl 0 _ h0
  exact (r.mono (same_hd_le fun a h => c'.m0 a h)).rep (hd_at (al_of_none al hx) hp)
end
end Pf

namespace Pf
open PySem L2 RZ PySem.Spec PyProof.Rows PySem.SeqAt
/-! ### len, bool, repr, == and != by defs of one's own -/
section
variable {M : Model} {prog : Program} {w : World} {A : Around} {E : Value → Shared → Prop} {s : Shared} {K : PySem.W.Frag} {x C f : Addr} {ox : Obj} {od : Option Obj} {b tb : Value}
end
/-! as rules of the layer -/
def rOwn1 (C : Addr) (sp : Sp) (E : XK) (ok : V → Prop) : List V → Hp → VK → Prop := fun xs H Q => ∃ a dx fs, xs = [.ref a] ∧ H a = some (.ins C dx fs) ∧ sp [.ref a] H (fun v H' => ok v ∧ Q v H') E
def okLen (v : V) : Prop := ∃ n : Int, v = .int n ∧ 0 ≤ n ∧ n < 2 ^ 63
section
variable {X : Cx} {CX : CXT} {n : Nat} {C g : Addr} {sp : Sp} {E : XK}
theorem call_lenOwn (hs : PySem.W.findIn X.K (.ref C) "__len__" = some (some (.ref g))) (hf : PySem.W.isFn X.K (.ref g) = true) (F : FnR X.prog X.w X.K X.mg X.base CX n g sp) (hr : Room (n + 1) X.A) (hx : Passes CX X E) : CallR X (.builtin "len") (rOwn1 C sp E okLen) := by
  intro pins s σ H xs us Q I r h
  obtain ⟨a, dx, fs, rfl, ea, q⟩ := h
  obtain ⟨u, rfl, ru⟩ := r.one
  cases (show u = Value.ref a from ru)
  obtain ⟨mA, O, _⟩ := ins_get I.hok ea
  obtain ⟨od, J, _⟩ := O.look
  obtain ⟨m, hF⟩ := I.fr
  refine PySem.W.len_K hF I.ok.mod.kin J hs hf (wpAny_mono (wpAny_call (SlX.run_at (us := [.ref a]) (ws := [.ref a]) F (Room.in1 hr) I.env0.in1 hx I (.cons rfl .nil) q)) (fun w s' z => ?_) fun _ _ x => x)
  obtain ⟨v, H', I', rv, ⟨i, rfl, h0, h1⟩, qv⟩ := z
  obtain ⟨t, rfl⟩ := (show ∃ t, w = Value.int i t from rv)
  exact ⟨⟨h0, h1⟩, .int i, H', I'.tok _, ⟨_, rfl⟩, qv⟩
end
/-! on data -/
/-- what of its class an instance is asked -/
structure ClsF (K : PySem.W.Frag) (C : Addr) : Prop where
  cl : Cls K C
  ca : PySem.W.findIn K (.ref C) "__class__" = some (some (.builtin "object.__class__"))
  cn : PySem.W.specialIn K (.builtin "object.__class__") "__get__" = some (some (.builtin "getset_descriptor.__get__"))
  ct : PySem.W.takesIn K (.builtin "object.__class__") = some true
  cm : PySem.W.mroIn K C (.type "object") = some true
theorem ClsF.ty {K : PySem.W.Frag} {C a dx : Addr} {H : Hp} {fs : List (Str × V)} (c : ClsF K C) (e : H a = some (.ins C dx fs)) : TyX K H (.ref a) (.ref C) := .base (.ins e c.cl c.ca c.cn c.ct c.cm)
section
variable {K : PySem.W.Frag} {C : Addr} {E : XK} {Pre : List D → Prop} {Post : List D → D → Prop} {P : D → Prop} {fs gs : List (Str × D)} {y : D}
theorem rep_ins {H : Hp} {v : V} (r : Rep K H v (.ins C fs)) : ∃ a dx us, v = .ref a ∧ H a = some (.ins C dx us) := by
  cases r with
  | @ins a _ dx us _ h1 rr => exact ⟨a, dx, us, rfl, h1⟩
theorem cd_lenOwn (pre : Pre [.ins C fs]) (po : ∀ d, Post [.ins C fs] d → ∃ n : Int, d = .int n ∧ 0 ≤ n ∧ n < 2 ^ 63 ∧ P d) : CallD K (rOwn1 C (spD K Pre Post) E okLen) [.ins C fs] P := fun M H vs Q al r q => by
  cases r with
  | cons r1 r2 =>
    cases r2
    obtain ⟨a, dx, us, rfl, h1⟩ := rep_ins r1
    refine ⟨a, dx, us, rfl, (hd_of h1).2, M, _, al, .cons r1 .nil, pre, fun v d H' pd s rv => ?_⟩
    obtain ⟨n, rfl, h0, h1, pp⟩ := po d pd
    cases rv
    exact ⟨⟨n, rfl, h0, h1⟩, q _ _ H' pp s (.int n)⟩
end
/-! methods and properties -/
section
variable {F : Fm} {δ : List SD} {ta : TA} {te : TE} {P : D → Prop} {C : Addr} {m : Str} {Pre : List D → Prop} {Post : List D → D → Prop} {E : XK}
/-- p, new, is hidden -/
theorem Ctx.take {M : Addr → Bool} {σ : L2.St} {H H' : Hp} (c : Ctx F M σ H δ) {p : Addr} {us : List V} (hp : H p = none) (s : Same H H') (h : H' p = some (.lst us)) : Ctx F (hid M p) σ H' δ := by
  have c' := c.same s
  have ne : ∀ a, F.M0 a = true → a ≠ p := fun a m e => by
    subst e
    obtain ⟨o, h⟩ := c.al0 _ m
    have := c.h0 hp
    rw [h] at this
    cases this
  refine ⟨fun a m => ?_, c.al0, fun a m => hid_le a (c.m0 a m), c'.fr, ⟨c'.bg.1, fun r z => (c'.bg.2 r z).imp id fun t => ⟨t.1, fun a φ m y => ?_⟩⟩, c.ln, fun i x hx => ?_, c.dj, c.oh⟩
  rotate_left
  · by_cases e : a = p
    · rw [e, h] at y
      cases y
    · rw [hid_ne e] at m
      exact t.2 a φ m y
  rotate_right
  · by_cases e : a = p
    · subst e
      exact ⟨_, h⟩
    · rw [hid_ne e] at m
      exact c'.al a m
  · have hs : Same (hd M H) (hd (hid M p) H') := hid_mono hp s
    obtain ⟨y, h1, h2⟩ := c.sl i x hx
    refine ⟨y, h1, ?_⟩
    cases x with
    | un => trivial
    | dat d =>
      obtain ⟨v, e, r⟩ := h2
      exact ⟨v, e, r.mono hs⟩
    | own q ds =>
      obtain ⟨e, m, vs, h3, r⟩ := h2
      exact ⟨e, hid_le q m, vs, s _ _ h3, r.mono hs⟩
    | bag => exact h2
    | sq ds =>
      obtain ⟨q, vs, g1, g2, g3, g4⟩ := h2
      exact ⟨q, vs, g1, g2, g3, g4.mono hs⟩
    | sl ds =>
      obtain ⟨q, vs, g1, g2, g3, g4⟩ := h2
      exact ⟨q, vs, g1, g2, g3, g4.mono hs⟩
    | oll q qs => exact ⟨h2.1, h2.2.mono (fun a m _ => hid_le a m) (fun a o _ _ _ h => s a o h) hs⟩
end
section
variable {K : PySem.W.Frag} {N : List Str} {vs : List V} {H : Hp} {Q : VK} {E : XK} {te : TE} {t : TS} {Pre : List D → Prop} {Post : List D → List D → Prop}
end
end Pf

namespace Pf
open PySem L2 RZ
/-! ### the layer's rules with the written part K named: in a comprehension's block its name would be the block's -/
section
variable {X : Cx} {tg e e2 o value : Expr} {te to ta tv : TE} {t : TA} {pos p apos cpos : Pos}
theorem ixL (K : PySem.W.Frag) (h : X.K = K := by rfl) : IxR X (rIxL K) := by subst h; exact ix_list
theorem ixT (K : PySem.W.Frag) (h : X.K = K := by rfl) : IxR X (rIxT K) := by subst h; exact ix_tup
theorem ixA (K : PySem.W.Frag) (h : X.K = K := by rfl) : IxR X (rIx K) := by subst h; exact ix_seq
theorem slL (K : PySem.W.Frag) (h : X.K = K := by rfl) : SlR X (rSlL K) := by subst h; exact sl_list
def rLenK (K : PySem.W.Frag) : List V → Hp → VK → Prop := fun xs H Q => ∃ x n, xs = [x] ∧ LenV K x H n ∧ Q (.int (n : Nat)) H
theorem callLen (K : PySem.W.Frag) (h : X.K = K := by rfl) : CallR X (.builtin "len") (rLenK K) := by subst h; exact call_len
theorem callIsi (K : PySem.W.Frag) (h : X.K = K := by rfl) : CallR X (.builtin "isinstance") (rIsi K) := by subst h; exact call_isi
theorem callIsiT (K : PySem.W.Frag) (h : X.K = K := by rfl) : CallR X (.builtin "isinstance") (rIsiT K) := by subst h; exact call_isiT
def rListK (K : PySem.W.Frag) : List V → Hp → VK → Prop := fun xs H Q => ∃ p ys, xs = [.ref p] ∧ (SqL K H p ys ∨ SqT K H p ys) ∧ ∀ l, H l = none → Q (.ref l) (upd H l (.lst ys))
theorem callList (K : PySem.W.Frag) (h : X.K = K := by rfl) : CallR X (.type "list") (rListK K) := by subst h; exact call_list_of
def rTupleK (K : PySem.W.Frag) : List V → Hp → VK → Prop := fun xs H Q => ∃ p ys, xs = [.ref p] ∧ ((SqL K H p ys ∧ ∀ l, H l = none → Q (.ref l) (upd H l (.tup ys))) ∨ (SqT K H p ys ∧ Q (.ref p) H))
theorem callTuple (K : PySem.W.Frag) (h : X.K = K := by rfl) : CallR X (.type "tuple") (rTupleK K) := by subst h; exact call_tuple_of
theorem callAll (K : PySem.W.Frag) (hc : X.calm = true := by rfl) (h : X.K = K := by rfl) : CallR X (.builtin "all") (rAll K) := by subst h; exact cr_all hc
theorem callAny (K : PySem.W.Frag) (hc : X.calm = true := by rfl) (h : X.K = K := by rfl) : CallR X (.builtin "any") (rAny K) := by subst h; exact cr_any hc
theorem opIn (K : PySem.W.Frag) (h : X.K = K := by rfl) : OpR X (compareOp .In) (rIn K false) := by subst h; exact op_in_seq
theorem opNotIn (K : PySem.W.Frag) (h : X.K = K := by rfl) : OpR X (compareOp .NotIn) (rIn K true) := by subst h; exact op_notIn_seq
theorem piL (K : PySem.W.Frag) (hl : PE X e te) (h : X.K = K := by rfl) : PI X tg e (iList K te) := by subst h; exact pi_list hl
theorem piT (K : PySem.W.Frag) (hl : PE X e te) (h : X.K = K := by rfl) : PI X tg e (iTup K te) := by subst h; exact pi_tup hl
theorem pgTup (K : PySem.W.Frag) {es : List Expr} {k : Nat} {ts : TGs} {n : Nat} (hc : X.calm = true) (hh : PGs X es ts)
    (hn : (assignEach es X.env).length = n := by rfl) (hst : (assignEach es X.env).findIdx? (·.1) = none := by rfl) (h : X.K = K := by rfl) : PG X (.Tuple es k pos) (gTup K n ts) := by subst h; exact pg_tup hc hh hn hst
theorem peFld (K : PySem.W.Frag) {f : Str} (he : PE X e te) (hb : attributeBase e f X.env (eval e X.env) = eval e X.env) (h : X.K = K := by rfl) : PE X (.Attribute e f pos) (tFld K te f) := by subst h; exact pe_fld he hb
end
/-! ### a call by keywords alone -/
section
variable {X : Cx} {CX : CXT} {k : Nat} {f : Addr} {fd : FuncData} {ps ks : List Str} {sp : Sp} {E : XK} {x : Str} {p pos : Pos} {kws : List Keyword} {tk : TA} {g : List Value → List Value → List Value} {gV : List V → List V → List V}
end
section
variable {F : Fm} {δ : List SD} {ta tk : TA} {P : D → Prop} {Pre : List D → Prop} {Post : List D → D → Prop} {E : XK} {gV : List V → List V → List V} {gD : List D → List D → List D}
end
section
variable {K : PySem.W.Frag} {P : D → Prop} {x : D} {F : Fm} {δ : List SD} {te : TE}
theorem cd_lenK {k : Nat} (h : lenD x = some k) (hz : k ≤ 100000) (p : P (.int (k : Int))) : CallD K (rLenK K) [x] P := cd_len h hz p
end
end Pf

namespace Pf
open PySem L2 RZ PySem.Spec PyProof.Rows
/-! ### a sequence that is borrowed, walked and asked -/
section
variable {F : Fm} {δ : List SD} {M : Addr → Bool} {σ : L2.St} {H : Hp} {PX : List D → Prop} {ta : TA} {te : TE} {P : D → Prop}
theorem walkD_enL {a : Addr} {vs : List V} {xs : List D} (k : ∀ H', StepB F.mv F.H0 H' → SqL F.K H' a vs) (h2 : RepL F.K (hd M H) vs xs) : WalkD F (Ite F.K a) M H (numbered xs) := by
  refine ⟨fun H => SqL F.K H a vs, YPair (fun i => some (.int (i : Nat))) (fun i => vs[i]?), ?_, fun M2 H2 _ e => k H2 e, fun M2 H2 i x H3 al e y => ?_⟩
  · have := walk_enum (K := F.K) (a := a) (xs := vs)
    rw [numbered_len, ← h2.length]
    exact this
  · obtain ⟨T, v, w, rfl, hT, rfl, e1, e2⟩ := y
    cases e1
    obtain ⟨f, e3, r2⟩ := h2.getV e2
    exact ⟨same_new hT, .tup [.int (i : Nat), f], numbered_get e3, pair_ok al hT (.int _) (r2.mono e)⟩
theorem walkD_enT {a : Addr} {vs : List V} {xs : List D} (k : ∀ H', StepB F.mv F.H0 H' → SqT F.K H' a vs) (h2 : RepL F.K (hd M H) vs xs) : WalkD F (IteT F.K a) M H (numbered xs) := by
  refine ⟨fun H => SqT F.K H a vs, YPair (fun i => some (.int (i : Nat))) (fun i => vs[i]?), ?_, fun M2 H2 _ e => k H2 e, fun M2 H2 i x H3 al e y => ?_⟩
  · have := walk_enumT (K := F.K) (a := a) (xs := vs)
    rw [numbered_len, ← h2.length]
    exact this
  · obtain ⟨T, v, w, rfl, hT, rfl, e1, e2⟩ := y
    cases e1
    obtain ⟨f, e3, r2⟩ := h2.getV e2
    exact ⟨same_new hT, .tup [.int (i : Nat), f], numbered_get e3, pair_ok al hT (.int _) (r2.mono e)⟩
theorem seq_keepL {K : PySem.W.Frag} {H H' : Hp} {p : Addr} {vs : List V} {B : Addr → Prop} (e : StepB B H H') (hb : ¬ B p) (h : SqL K H p vs) : SqL K H' p vs := by
  rcases h with (h | ⟨o, h⟩) | h
  · exact .inl (.inl (e _ _ hb h))
  · exact .inl (.inr ⟨o, e _ _ hb h⟩)
  · exact .inr h
theorem seq_keepT {K : PySem.W.Frag} {H H' : Hp} {p : Addr} {vs : List V} {B : Addr → Prop} (e : StepB B H H') (hb : ¬ B p) (h : SqT K H p vs) : SqT K H' p vs := by
  rcases h with (h | ⟨o, h⟩) | h
  · exact .inl (.inl (e _ _ hb h))
  · exact .inl (.inr ⟨o, e _ _ hb h⟩)
  · exact .inr h
theorem Ctx.sqAt (c : Ctx F M σ H δ) {i : Nat} {ds : List D} (h : δ[i]? = some (.sq ds)) : ∃ p vs, σ[i]? = some (some (.ref p)) ∧ ((∀ H', StepB F.mv F.H0 H' → SqL F.K H' p vs) ∨ (∀ H', StepB F.mv F.H0 H' → SqT F.K H' p vs)) ∧ RepL F.K (hd M H) vs ds := by
  obtain ⟨s, h1, p, vs, h2, h3, h4, h5⟩ := c.sl i _ h
  subst h2
  refine ⟨p, vs, h1, ?_, h5⟩
  rcases h4 with h4 | h4
  · exact .inl fun H' e => seq_keepL e h3 h4
  · exact .inr fun H' e => seq_keepT e h3 h4
theorem it_enumSq {i : Nat} {ds : List D} (hi : δ[i]? = some (.sq ds)) (p : PX (numbered ds)) : ItD F (iEnumA F.K (tCons (tVar i) tNil)) δ PX := fun M σ H R c q => by
  obtain ⟨a, vs, h1, h2, r⟩ := c.sqAt hi
  rcases h2 with h2 | h2
  · exact ⟨_, h1, a, vs, rfl, .inl ⟨h2 H c.fr, q _ _ H p c (StepB.refl _ _) (walkD_enL h2 r)⟩⟩
  · exact ⟨_, h1, a, vs, rfl, .inr ⟨h2 H c.fr, q _ _ H p c (StepB.refl _ _) (walkD_enT h2 r)⟩⟩
theorem ev_lenSq {i : Nat} {ds : List D} (hi : δ[i]? = some (.sq ds)) (p : P (.int (ds.length : Int))) : Ev F (tCB (rLenK F.K) (tCons (tVar i) tNil)) δ P := fun M σ H Q c q => by
  obtain ⟨a, vs, h1, h2, r⟩ := c.sqAt hi
  refine ⟨_, h1, _, ds.length, rfl, ?_, q _ _ H p c (StepB.refl _ _) (.int _)⟩
  rcases h2 with h2 | h2
  · exact .inl ⟨_, h2 H c.fr, r.length.symm⟩
  · exact .inr ⟨_, h2 H c.fr, r.length.symm⟩
end
/-! ### more operations -/
section
variable {F : Fm} {δ : List SD} {te tv : TE} {R : PD} {P : D → Prop}
/-- a constant of a class -/
theorem ev_cval {C : Addr} {mc : Value} {f : Str} {n : Int} {u : Value} (cr : ClX.CRead F.K C mc) (cv : ClX.CVal F.K C mc f (.int n) u) (p : P (.int n)) (h : Ev F te δ fun d => d = .adr C) : Ev F (ClX.tCVal F.K te f) δ P := fun M σ H Q c q =>
  h M σ H _ c fun v x H1 p1 c1 e1 r1 => by
    subst p1
    cases r1
    exact ⟨C, mc, .int n, u, rfl, cr, cv, q _ _ H1 p c1 e1 (.int n)⟩
end
section
variable {K : PySem.W.Frag} {P : D → Prop}
end
/-! f-strings -/
section
variable {F : Fm} {δ : List SD} {te : TE} {P : D → Prop} {PS : Str → Prop}
end
end Pf
namespace Pf
open PySem L2 RZ PySem.Spec PyProof.Rows
theorem peCval {X : Cx} {e : Expr} {f : Str} {pos : Pos} {ta : TE} (K : PySem.W.Frag) (he : PE X e ta) (hb : attributeBase e f X.env (eval e X.env) = eval e X.env := by rfl) (hK : X.K = K := by rfl) : PE X (.Attribute e f pos) (ClX.tCVal K ta f) := by
  subst hK; exact ClX.pe_cval he hb
end Pf

namespace Pf
open PySem L2 RZ PySem.Spec PyProof.Rows
/-! a def of one sequence that is only read -/
def spS (K : PySem.W.Frag) (Pre : List D → Prop) (Post : List D → D → Prop) : Sp := fun vs H Q _ => ∃ (M : Addr → Bool) (p : Addr) (us : List V) (es : List D), vs = [.ref p] ∧ Al M H ∧ (SqL K H p us ∨ SqT K H p us) ∧ RepL K (hd M H) us es ∧ Pre es ∧
  ∀ v d H', Post es d → Same H H' → Rep K (hd M H') v d → Q v H'
section
variable {K : PySem.W.Frag} {N : List Str} {vs : List V} {H : Hp} {Q : VK} {E : XK} {t : TS} {Pre : List D → Prop} {Post : List D → D → Prop}
theorem enterS (hs : spS K Pre Post vs H Q E) (hb : ∀ (M : Addr → Bool) (es : List D), Pre es → Do ⟨K, none, M, H, E, 0, []⟩ t (.sq es :: List.replicate (N.length - 1) .un) { nx := fun _ => Post es .non, rt := Post es }) :
    t { nx := fun _ H' => Q .non H', rt := Q } (L2.start N vs) H := by
  obtain ⟨M, p, us, es, rfl, al, hq, r, pre, q⟩ := hs
  have nown : ∀ {i : Nat} {p : Addr} {o : OD}, (SD.sq es :: List.replicate (N.length - 1) .un)[i]? ≠ some (.own p o) := fun h => by
    have := List.mem_of_getElem? h
    rcases List.mem_cons.mp this with h | h
    · cases h
    · cases List.eq_of_mem_replicate h
  have c : Ctx ⟨K, none, M, H, E, 0, []⟩ M (L2.start N [.ref p]) H (.sq es :: List.replicate (N.length - 1) .un) := by
    refine ⟨al, al, fun _ h => h, StepB.refl _ _, ⟨fun b z => (nomatch z), fun a h => (nomatch h)⟩, ?_, fun i x h => ?_, fun i j p es fs h1 h2 => absurd h1 nown, fun i p es h => absurd h nown⟩
    · unfold L2.start
      simp
    · unfold L2.start
      cases i with
      | zero =>
        have e : SD.sq es = x := by simpa using h
        subst e
        exact ⟨_, rfl, p, us, rfl, mv_none rfl rfl _, hq, r⟩
      | succ i =>
        have h' : (List.replicate (N.length - 1) SD.un)[i]? = some x := by simpa using h
        have hx : x = .un := List.eq_of_mem_replicate (List.mem_of_getElem? h')
        have hlt := (List.getElem?_eq_some_iff.mp h').1
        rw [List.length_replicate] at hlt
        subst hx
        refine ⟨none, ?_, trivial⟩
        show (List.replicate (N.length - 1) none)[i]? = some none
        rw [List.getElem?_replicate, if_pos hlt]
  refine hb M es pre M _ H _ c (fun M' σ' H' δ' p c' s => ?_) (fun v d M' σ' H' δ' p c' s r' => ?_) (fun _ _ _ _ p => p.elim) (fun _ _ _ _ p => p.elim)
  · exact q _ _ H' p (fun a o h => c'.fr a o (mv_none rfl rfl a) h) .non
  · exact q v d H' p (fun a o h => c'.fr a o (mv_none rfl rfl a) h) (r'.mono (same_hd_le fun a h => c'.m0 a h))
end
section
variable {F : Fm} {δ : List SD} {P : D → Prop} {Pre : List D → Prop} {Post : List D → D → Prop} {E : XK}
end
theorem spS_len {K : PySem.W.Frag} {Pre : List D → Prop} {Post : List D → D → Prop} : ∀ vs H Q E, spS K Pre Post vs H Q E → vs.length = 1 := fun vs H Q E ⟨M, p, us, es, e, _⟩ => by rw [e]; rfl
end Pf

namespace Pf
open PySem L2 RZ PySem.Spec PyProof.Rows
/-- texts -/
def txsD (zs : List Str) : List D := zs.map .str
theorem repL_strs {K : PySem.W.Frag} {H : Hp} : ∀ {vs : List V} {zs : List Str}, RepL K H vs (txsD zs) → vs = zs.map V.str
  | _, [], .nil => rfl
  | _, b :: bs, .cons (.str _) r => by rw [List.map_cons, repL_strs (zs := bs) r]
/-! ### an __init__ with a sequence in the middle, keyword-only parameters behind -/
def spIM (K : PySem.W.Frag) (C : Addr) (Pre : List D → List D → List D → Prop) (Post : List D → List D → List D → List (Str × D) → Prop) : Sp := fun vs H Q _ => ∃ (M : Addr → Bool) (H1 : Hp) (x dx : Addr) (ws : List V) (ds : List D) (p : Addr) (us : List V) (es : List D) (zs : List V) (gs : List D), vs = .ref x :: (ws ++ .ref p :: zs) ∧ H1 x = none ∧ H1 dx = none ∧ dx ≠ x ∧
  H = upd (upd H1 dx (.own x)) x (.ins C dx []) ∧ Al M H1 ∧ RepL K (hd M H1) ws ds ∧ (SqL K H1 p us ∨ SqT K (hd M H1) p us) ∧ RepL K (hd M H1) us es ∧ RepL K (hd M H1) zs gs ∧ Pre ds es gs ∧ ∀ H2 fs, Post ds es gs fs → Same H1 H2 → Rep K (hd M H2) (.ref x) (.ins C fs) → Q .non H2
theorem spIM_len {K : PySem.W.Frag} {C : Addr} {Pre : List D → List D → List D → Prop} {Post : List D → List D → List D → List (Str × D) → Prop} {n : Nat} (h : ∀ ds es gs, Pre ds es gs → ds.length + gs.length + 2 = n) : ∀ vs H Q E, spIM K C Pre Post vs H Q E → vs.length = n := fun vs H Q E ⟨M, H1, x, dx, ws, ds, p, us, es, zs, gs, e, _, _, _, _, _, r, _, _, rz, pre, _⟩ => by
  rw [e]
  simp only [List.length_cons, List.length_append, r.length, rz.length]
  have := h ds es gs pre
  omega
section
variable {K : PySem.W.Frag} {N : List Str} {vs : List V} {H : Hp} {Q : VK} {E : XK} {t : TS} {C : Addr}
theorem enterIM {Pre : List D → List D → List D → Prop} {Post : List D → List D → List D → List (Str × D) → Prop} (hs : spIM K C Pre Post vs H Q E)
    (hb : ∀ (M : Addr → Bool) (H1 : Hp) (x : Addr) (ds es gs : List D) (X : SD), Pre ds es gs → ds.length + gs.length + 2 = vs.length → (X = .sl es ∨ X = .dat (.tup es)) → Do ⟨K, none, M, H1, E, 0, []⟩ t (slotsI N x C (ds.map .dat ++ X :: gs.map .dat)) { nx := fun δ' => ∃ fs, δ'[0]? = some (.own x (.ins C fs)) ∧ Post ds es gs fs }) :
    t { nx := fun _ H' => Q .non H', rt := Q } (L2.start N vs) H := by
  obtain ⟨M, H1, x, dx, ws, ds, p, us, es, zs, gs, rfl, hx, hdx, ne, rfl, al, r, hq, rq, rz, pre, q⟩ := hs
  have hl := r.length
  have hlz := rz.length
  have s1 := same_made (C := C) hx hdx
  obtain ⟨X, hX, hXs, hXn⟩ : ∃ X : SD, (X = .sl es ∨ X = .dat (.tup es)) ∧ SlotOk ⟨K, none, M, H1, E, 0, []⟩ (hid M x) (upd (upd H1 dx (.own x)) x (.ins C dx [])) (some (.ref p)) X ∧ ∀ p o, X ≠ .own p o := by
    rcases hq with hq | hq
    · exact ⟨.sl es, .inl rfl, ⟨p, us, rfl, mv_none rfl rfl _, hq, rq.mono (hid_mono hx s1)⟩, fun p o e => by cases e⟩
    · exact ⟨.dat (.tup es), .inr rfl, ⟨_, rfl, .tup (same_tup (hid_mono hx s1) hq) (rq.mono (hid_mono hx s1))⟩, fun p o e => by cases e⟩
  have split : ∀ (i : Nat) (y : SD), (ds.map SD.dat ++ X :: gs.map SD.dat)[i]? = some y → (∃ v, (ws ++ .ref p :: zs)[i]? = some v ∧ SlotOk ⟨K, none, M, H1, E, 0, []⟩ (hid M x) (upd (upd H1 dx (.own x)) x (.ins C dx [])) (some v) y) ∧ ∀ p o, y ≠ .own p o := fun i y h => by
    by_cases hi : i < ds.length
    · rw [List.getElem?_append_left (by simpa using hi), List.getElem?_map] at h
      cases z : ds[i]? with
      | none => rw [z] at h; cases h
      | some d =>
        rw [z] at h
        cases h
        obtain ⟨v, g1, g2⟩ := r.get z
        exact ⟨⟨v, by rw [List.getElem?_append_left (by rw [hl]; exact hi)]; exact g1, v, rfl, g2.mono (hid_mono hx s1)⟩, fun p o e => by cases e⟩
    · have hi := Nat.le_of_not_lt hi
      rw [List.getElem?_append_right (by simpa using hi)] at h
      simp only [List.length_map] at h
      rw [List.getElem?_append_right (by rw [hl]; exact hi), hl]
      generalize i - ds.length = j at h
      cases j with
      | zero =>
        obtain rfl : X = y := by simpa using h
        exact ⟨⟨_, rfl, hXs⟩, hXn⟩
      | succ j =>
        have h' : (gs.map SD.dat)[j]? = some y := by simpa using h
        rw [List.getElem?_map] at h'
        cases z : gs[j]? with
        | none => rw [z] at h'; cases h'
        | some d =>
          rw [z] at h'
          cases h'
          obtain ⟨v, g1, g2⟩ := rz.get z
          exact ⟨⟨v, by simpa using g1, v, rfl, g2.mono (hid_mono hx s1)⟩, fun p o e => by cases e⟩
  have c := ctxI (K := K) (E := E) (C := C) (N := N) (ws := ws ++ .ref p :: zs) (sds := ds.map .dat ++ X :: gs.map .dat) hx hdx ne al (by simp [hl, hlz]) (fun i y h => (split i y h).1) (fun i p o h => (split i _ h).2 p o rfl)
  refine hb M H1 x ds es gs X pre (by simp [hl, hlz]; omega) hX _ _ _ _ c (fun M' σ' H' δ' pp c' s => ?_) (fun v d M' σ' H' δ' pp => pp.elim) (fun _ _ _ _ p => p.elim) (fun _ _ _ _ p => p.elim)
  obtain ⟨fs, h0, po⟩ := pp
  obtain ⟨g1, g2⟩ := leaveI hx al c' h0
  exact q H' fs po g1 g2
end
/-- a list as it was split in data -/
theorem repL_split {K : PySem.W.Frag} {H : Hp} : ∀ {ds : List D} {l : D} {gs : List D} {vs : List V}, RepL K H vs (ds ++ l :: gs) → ∃ ws u zs, vs = ws ++ u :: zs ∧ RepL K H ws ds ∧ Rep K H u l ∧ RepL K H zs gs
  | [], l, gs, _, .cons r1 r2 => ⟨[], _, _, rfl, .nil, r1, r2⟩
  | d :: ds, l, gs, _, .cons r1 r2 => by
    obtain ⟨ws, u, zs, rfl, g1, g2, g3⟩ := repL_split (ds := ds) r2
    exact ⟨_ :: ws, u, zs, rfl, .cons r1 g1, g2, g3⟩
section
variable {F : Fm} {δ : List SD} {ta tk : TA} {te : TE} {P : D → Prop} {C : Addr} {E : XK} {Pre : List D → List D → List D → Prop} {Post : List D → List D → List D → List (Str × D) → Prop}
/-- the sequence that is handed over: data, or a list of one's own -/
def SeqArg (δ : List SD) (l : D) (es : List D) : Prop := l = .lst es ∨ l = .tup es ∨ ∃ (i : Nat) (p : Addr), l = .adr p ∧ δ[i]? = some (SD.own p (.lst es))
theorem seqArg_at {M : Addr → Bool} {σ : L2.St} {H : Hp} {u : V} {l : D} {es : List D} (c : Ctx F M σ H δ) (h : SeqArg δ l es) (r : Rep F.K (hd M H) u l) : ∃ p us, u = .ref p ∧ (SqL F.K H p us ∨ SqT F.K (hd M H) p us) ∧ RepL F.K (hd M H) us es := by
  rcases h with rfl | rfl | ⟨i, p, rfl, hi⟩
  · cases r with
    | lst h1 h2 => exact ⟨_, _, rfl, .inl (SqL.of (hd_of h1).2), h2⟩
  · cases r with
    | tup h1 h2 => exact ⟨_, _, rfl, .inr h1, h2⟩
  · cases r
    obtain ⟨s, hs, e, m, ho, hp, rr⟩ := c.sl i _ hi
    cases rr with
    | @lst us _ rr => exact ⟨p, us, rfl, .inl (SqL.of hp), rr⟩
/-- C(e, .., k = v, ..) -/
theorem ev_makeMK {n m : Nat} {gV : List V → List V → List V} {gD : List D → List D → List D} (hg : ∀ (H : Hp) (vs zs : List V) (ds es : List D), RepL F.K H vs ds → RepL F.K H zs es → RepL F.K H (gV vs zs) (gD ds es))
    (h : EvA F ta δ fun ds => EvA F tk δ fun ks => ds.length = n ∧ ks.length = m ∧ ∃ ds0 l es gs, (∀ x, gD (.adr x :: ds) ks = .adr x :: (ds0 ++ l :: gs)) ∧ SeqArg δ l es ∧ Pre ds0 es gs ∧ ∀ fs, Post ds0 es gs fs → P (.ins C fs)) :
    Ev F (tMakeK C n m (spIM F.K C Pre Post) gV E ta tk) δ P := fun M σ H Q c q => by
  refine h M σ H _ c fun vs ds H1 p1 c1 e1 r1 => p1 M σ H1 _ c1 fun zs ks H2 p2 c2 e2 r2 => ?_
  obtain ⟨l1, l2, ds0, l, es, gs, hgd, hl, pre, po⟩ := p2
  refine ⟨by rw [r1.length, l1], by rw [r2.length, l2], fun x dx hx hdx ne => ?_⟩
  have r := hg _ (.ref x :: vs) zs (.adr x :: ds) ks (.cons (.adr x) (r1.mono (hd_step c1 e2))) r2
  rw [hgd x] at r
  generalize gV (.ref x :: vs) zs = ws at r
  cases r with
  | cons ra rb =>
    cases ra
    obtain ⟨w1, u, w2, rfl, g1, g2, g3⟩ := repL_split rb
    obtain ⟨p, us, rfl, hq, rq⟩ := seqArg_at c2 hl g2
    exact ⟨M, H2, x, dx, w1, ds0, p, us, es, w2, gs, rfl, hx, hdx, ne, rfl, c2.al, g1, hq, rq, g3, pre, fun H3 fs ps s rr => ⟨rfl, q _ _ H3 (po fs ps) (c2.same s) ((e1.trans e2).trans (StepB.of s)) rr⟩⟩
/-! a sequence in a slot that is a borrowed list or a tuple of data -/
def SeqSlot (δ : List SD) (i : Nat) (es : List D) : Prop := δ[i]? = some (.sl es) ∨ δ[i]? = some (.dat (.tup es))
theorem Ctx.getSl {M : Addr → Bool} {σ : L2.St} {H : Hp} (c : Ctx F M σ H δ) {i : Nat} {ds : List D} (h : δ[i]? = some (.sl ds)) : ∃ p vs, σ[i]? = some (some (.ref p)) ∧ SqL F.K H p vs ∧ RepL F.K (hd M H) vs ds := by
  obtain ⟨s, h1, p, vs, h2, h3, h4, h5⟩ := c.sl i _ h
  subst h2
  exact ⟨p, vs, h1, seq_keepL c.fr h3 h4, h5⟩
theorem ev_tupSeq {i : Nat} {es : List D} (hi : SeqSlot δ i es) (p : P (.tup es)) : Ev F (tCB (rTupleK F.K) (tCons (tVar i) tNil)) δ P := fun M σ H Q c q => by
  rcases hi with hi | hi
  · obtain ⟨a, vs, h1, h2, r⟩ := c.getSl hi
    exact ⟨_, h1, a, vs, rfl, .inl ⟨h2, fun l hl => q _ _ _ p (c.same (same_new hl)) (StepB.of (same_new hl)) (.tup (SqT.of (hd_new c.al hl)) (r.mono (same_hdM (same_new hl))))⟩⟩
  · obtain ⟨v, h1, r⟩ := c.get hi
    cases r with
    | tup h2 h3 => exact ⟨_, h1, _, _, rfl, .inr ⟨same_tup (same_hd M H) h2, q _ _ H p c (StepB.refl _ _) (.tup h2 h3)⟩⟩
theorem ev_callSeq {Pre : List D → Prop} {Post : List D → D → Prop} {i : Nat} {es : List D} (hi : SeqSlot δ i es) (pre : Pre es) (po : ∀ d, Post es d → P d) : Ev F (tCall (spS F.K Pre Post) [] E (tCons (tVar i) tNil)) δ P := fun M σ H Q c q => by
  rcases hi with hi | hi
  · obtain ⟨a, vs, h1, h2, r⟩ := c.getSl hi
    refine ⟨_, h1, ?_⟩
    show spS F.K Pre Post ([V.ref a] ++ []) H Q E
    rw [List.append_nil]
    exact ⟨M, a, vs, es, rfl, c.al, .inl h2, r, pre, fun v d H' pd s r => q v d H' (po d pd) (c.same s) (StepB.of s) r⟩
  · obtain ⟨v, h1, r⟩ := c.get hi
    cases r with
    | @tup a vs _ h2 h3 =>
      refine ⟨_, h1, ?_⟩
      show spS F.K Pre Post ([V.ref a] ++ []) H Q E
      rw [List.append_nil]
      exact ⟨M, a, vs, es, rfl, c.al, .inr (same_tup (same_hd M H) h2), h3, pre, fun v d H' pd s r => q v d H' (po d pd) (c.same s) (StepB.of s) r⟩
/-- an item of a borrowed sequence -/
theorem ev_ixSq {i : Nat} {es : List D} {k : Int} {d : D} (hi : δ[i]? = some (.sq es)) (hk : atI es k = some d) (p : P d) : Ev F (tOp (rIx F.K) (tVar i) (tC (.int k))) δ P := fun M σ H Q c q => by
  obtain ⟨a, vs, h1, h2, r⟩ := c.sqAt hi
  obtain ⟨v, e, rv⟩ := repL_at r hk
  refine ⟨_, h1, ?_⟩
  rcases h2 with h2 | h2
  · exact .inl ⟨a, vs, k, v, rfl, rfl, h2 H c.fr, e, q v d H p c (StepB.refl _ _) rv⟩
  · exact .inr (.inl ⟨a, vs, k, v, rfl, rfl, h2 H c.fr, e, q v d H p c (StepB.refl _ _) rv⟩)
/-- a class constant that is a tuple of texts -/
theorem ev_ctup {mc : Value} {f : Str} {a : Addr} {u : Value} {zs : List Str} (cr : ClX.CRead F.K C mc) (cv : ClX.CVal F.K C mc f (.ref a) u) (sq : ∀ H, SqT F.K H a (zs.map V.str)) (p : P (.tup (txsD zs))) (h : Ev F te δ fun d => d = .adr C) : Ev F (ClX.tCVal F.K te f) δ P := fun M σ H Q c q =>
  h M σ H _ c fun v x H1 p1 c1 e1 r1 => by
    subst p1
    cases r1
    refine ⟨C, mc, .ref a, u, rfl, cr, cv, q _ _ H1 p c1 e1 (.tup (sq _) ?_)⟩
    have : ∀ zs : List Str, RepL F.K (hd M H1) (zs.map V.str) (txsD zs) := fun zs => by
      induction zs with
      | nil => exact .nil
      | cons z zs ih => exact .cons (.str z) ih
    exact this zs
/-- a, b = x, y -/
theorem do_par2 {tb : TE} {R : PD} {i j : Nat} (h : Ev F te δ fun x => Ev F tb δ fun y => R.nx ((δ.set i (.dat x)).set j (.dat y))) : Do F (tPar i j (tCons te (tCons tb tNil))) δ R := fun M σ H E c a b k d =>
  h M σ H _ c fun v x H1 p1 c1 e1 r1 => p1 M σ H1 _ c1 fun w y H2 p2 c2 e2 r2 =>
    ⟨v, w, rfl, a M _ H2 _ p2 ((c2.set i (r1.mono (hd_step c1 e2))).set j r2) ((hd_step c e1).trans (hd_step c1 e2))⟩
/-- list(range(n)) -/
theorem en_lstRg1 {PL : List D → Prop} (h : Ev F te δ fun d => ∃ n : Int, d = .int n ∧ 0 ≤ n ∧ n ≤ 1000 ∧ PL (upto 0 n.toNat)) : EvN F (tLstRg (tRg1 te)) δ PL := fun M σ H Q c q =>
  h M σ H _ c fun v d H1 p1 c1 e1 r1 => by
    obtain ⟨n, rfl, h0, h1, p⟩ := p1
    cases r1
    refine ⟨n, rfl, RgOk.of_le (by omega) (by omega) (by omega) (by omega), fun a ha => ?_⟩
    have ha0 : H a = none := by
      cases z : H a with
      | none => rfl
      | some o =>
        have := e1 a o (c1.nob ha) z
        rw [ha] at this
        cases this
    refine q a _ _ _ p (c1.hide ha) ha0 (c1.h0 ha) (c1.nob ha) (c1.nown ha) (e1.trans (StepB.of (same_new ha))) upd_same ?_
    have key : ∀ (H : Hp) (l : List Nat), RepL F.K H (l.map fun i => V.int (0 + (i : Nat))) (l.map fun i => D.int (0 + (i : Nat))) := fun H l => by
      induction l with
      | nil => exact .nil
      | cons x l ih => exact .cons (.int _) ih
    have e : (n - 0).toNat = n.toNat := by omega
    unfold rgV upto
    rw [e]
    exact key _ _
end
section
variable {K : PySem.W.Frag} {P : D → Prop}
/-- a text among texts -/
theorem od_inStrs {x : Str} {zs : List Str} {neg t : Bool} (p : P (.bl (if neg then !decide (x ∈ zs) else decide (x ∈ zs)))) : OpD K (rIn K neg) (.str x) (if t then .tup (txsD zs) else .lst (txsD zs)) P := fun M H v w Q al r1 r2 q => by
  cases r1
  have fl : ∀ ns : List Str, ((ns.map V.str).all flatV) = true := fun ns => by
    rw [List.all_eq_true]
    intro x hx
    obtain ⟨n, _, rfl⟩ := List.mem_map.mp hx
    rfl
  have iv : ∀ ns : List Str, inV (.str x) (ns.map V.str) = decide (x ∈ ns) := fun ns => by
    induction ns with
    | nil => rfl
    | cons n ns ih =>
      have e : eqV (.str n) (.str x) = decide (x = n) := by
        show (n == x) = _
        by_cases h : x = n
        · subst h
          simp
        · rw [decide_eq_false h]
          exact beq_eq_false_iff_ne.mpr fun e => h e.symm
      show (eqV (.str n) (.str x) || inV (.str x) (ns.map V.str)) = _
      rw [e, ih]
      simp [List.mem_cons]
  cases t with
  | true =>
    simp only [if_true] at r2
    cases r2 with
    | tup h1 h2 =>
      have e := repL_strs h2
      subst e
      exact ⟨_, _, rfl, .inr (same_tup (same_hd M H) h1), rfl, fl zs, by rw [iv]; exact q _ _ H p (Same.refl H) (.bl _)⟩
  | false =>
    simp only [Bool.false_eq_true, if_false] at r2
    cases r2 with
    | lst h1 h2 =>
      have e := repL_strs h2
      subst e
      exact ⟨_, _, rfl, .inl (SqL.of (hd_of h1).2), rfl, fl zs, by rw [iv]; exact q _ _ H p (Same.refl H) (.bl _)⟩
end
end Pf

namespace Pf
open PySem L2 RZ PySem.Spec PyProof.Rows
/-! ### a def that returns a new list -/
section
variable {F : Fm} {δ : List SD} {t u : TS} {te : TE} {tt : TT} {P : List D → Prop}
end
section
variable {K : PySem.W.Frag} {N : List Str} {vs : List V} {H : Hp} {Q : VK} {E : XK} {t : TS} {Pre : List D → Prop} {Post : List D → List D → Prop}
end
section
variable {F : Fm} {δ : List SD} {ta tk : TA} {te tb : TE} {P : List D → Prop} {E : XK} {Pre : List D → Prop} {Post : List D → List D → Prop}
end
/-! ### sum, min, max, the set of ints sorted, a deep in -/
section
variable {K : PySem.W.Frag} {P : D → Prop} {ns : List Int}
end
section
variable {F : Fm} {δ : List SD} {te : TE} {PL : List D → Prop} {w : World}
end
/-! ### values known -/
section
variable {F : Fm} {δ : List SD} {ta tb te : TE} {tt tu : TT} {P : D → Prop} {x y z : D} {a b : Bool} {i j : Int}
theorem Ev.val {v : D} (h : Ev F te δ (· = v)) (p : P v) : Ev F te δ P := h.imp fun d e => by rw [e]; exact p
theorem EvT.val {PT : Bool → Prop} (h : EvT F tt δ (· = b)) (p : PT b) : EvT F tt δ PT := h.imp fun d e => by rw [e]; exact p
end
end Pf

/-! an error of an own class made as a value: with keywords too, over any built-in base -/
namespace PySem
namespace PfX
open PySem.W PySem.Calls PyProof.Rows PySem.HandSPX
section
variable {prog : Program} {w : World} {A : Around} {E : Value → Shared → Prop} {R : Result → Shared → Prop} {h : Heap} {g : Array GenState} {d : Drawn} {t : Nat} {os : OsState}
variable {nm q : Str} {C N : Addr} {bs bm tl : List Value} {hdct : Bool} {sn : List Str} {sub : List Value} {ab : Bool} {col : Option Bool} {dd : Option Addr} {k0 k1 k2 k3 k5 : Option Value} {B nI iI : String}
/-- base.__new__(C, .., k = v) is let -/
theorem xk_let (F : ExcBaseFacts B nI iI tl) (hT : ∀ X : String, bm.contains (.type X) = tl.contains (.type X)) {us : List Value} {ks : List (Str × Value)} {Q : Unit → Shared → Prop}
    (hC : h.get? C = some (excClassObj nm q C N bs bm hdct sn sub ab col dd k0 k1 k2 k3 k5 nI)) (z : Q () ⟨h, g, d, t, os⟩) : wpAny (model prog w) A (checkBuiltinCall nI ⟨.ref C :: us, ks⟩) Q E ⟨h, g, d, t, os⟩ := by
  have cB : (Value.ref C :: bm).contains (.type B) = true := by simp only [List.contains_cons, hT, F.hasB, Bool.or_true]
  have st := F.noStar
  simp only [checkBuiltinCall, F.newKind, F.newSplit, F.newRow]
  repeat (first | refine wpAny_loadPart_at hC ?_ | (refine wpAny_isSubtype_exc hC ?_; rw [cB]) | refine wpAny_staticBase_exc hC ?_ | refine wpAny_madeBy_exc hC ?_ | simp only [bne_self_eq_false, Bool.false_eq_true, if_false] | wp_step)
  exact z
/-- base.__new__(C, .., k = v) -/
theorem xk_new (F : ExcBaseFacts B nI iI tl) (hT : ∀ X : String, bm.contains (.type X) = tl.contains (.type X)) {us : List Value} {ks : List (Str × Value)}
    (hC : h.get? C = some (excClassObj nm q C N bs bm hdct sn sub ab col dd k0 k1 k2 k3 k5 nI)) (hl : us.length ≤ sizeLine)
    (z : R (.ok (.ret (.ref (h.objs.size + 1)))) ⟨(h.push (kdv_tup us)).push (excO C h.objs.size), g, d, t, os⟩) : codeAny (model prog w) A (.builtin nI ⟨.ref C :: us, ks⟩) R ⟨h, g, d, t, os⟩ := by
  have e1 := F.ends
  have cB : (Value.ref C :: bm).contains (.type B) = true := by simp only [List.contains_cons, hT, F.hasB, Bool.or_true]
  have cA : (Value.ref C :: bm).contains (.type "AttributeError") = false := by simp only [List.contains_cons, hT, F.noAttr]; rfl
  have cN : (Value.ref C :: bm).contains (.type "NameError") = false := by simp only [List.contains_cons, hT, F.noName]; rfl
  refine codeAny_builtinAt F.entry ?_
  unfold Builtin.«BaseException.__new__»
  refine wpAt_bind ?_
  show wpAt _ _ _ (stack >>= _) _ _ _
  refine wpAt_bind (wpAt_stack fun p below => wpAt_of_wpAny ?_)
  wp_walk
  refine wpAt_of_wpAny ?_
  rw [F.owner]
  repeat (first | with_reducible refine wpAny_madeHere_exc F.canon hC ?_ | with_reducible refine wpAny_loadPart_at hC ?_ | (with_reducible refine wpAny_isSubtype_exc hC ?_; first | rw [cB] | rw [cA] | rw [cN]) | wp_step)
  show R _ _
  rw [Heap.size_push]
  exact z
/-- type.__call__(C, .., k = v): C's own __init__ is asked -/
theorem xk_type (F : ExcBaseFacts B nI iI tl) (hT : ∀ X : String, bm.contains (.type X) = tl.contains (.type X)) {us : List Value} {ks : List (Str × Value)} {fI : Addr} {Q : Fin → Shared → Prop}
    (hC : h.get? C = some (excClassObj nm q C N bs bm hdct sn sub ab col dd k0 k1 k2 k3 k5 nI)) (hl : us.length ≤ sizeLine)
    (hi : Looks (model prog w) h (typeLookup (.ref C) "__init__") (some (.ref fI))) (hb : ∀ self, Looks (model prog w) h (bindSpecial (.ref fI) self) (.ref fI, [self]))
    (z : codeAny (model prog w) A (.call (.ref fI) ⟨.ref (h.objs.size + 1) :: us, ks⟩) (fun r s' => match r with | .ok (.ret v) => v = .none ∧ Q (.done (.ret (.ref (h.objs.size + 1)))) s' | .ok _ => False | .error e => E e s') ⟨(h.push (kdv_tup us)).push (excO C h.objs.size), g, d, t, os⟩) :
    wpAny (model prog w) A (Builtin.«type.__call__» ⟨.ref C :: us, ks⟩) Q E ⟨h, g, d, t, os⟩ := by
  have k : ∀ b o, h.get? b = some o → ((h.push (kdv_tup us)).push (excO C h.objs.size)).get? b = some o := fun b o e => Heap.get?_push_of_some _ (Heap.get?_push_of_some _ e)
  have hx : ((h.push (kdv_tup us)).push (excO C h.objs.size)).get? (h.objs.size + 1) = some (excO C h.objs.size) := by heap_get
  have hC' := k _ _ hC
  have own : (Value.ref C :: bm).contains (.ref C) = true := by simp
  repeat (first | with_reducible refine wpAny_loadPart_at hC ?_ | with_reducible refine wpAny_madeBy_exc hC ?_ | wp_step)
  refine codeAny_call_builtin_code (Code.quiet_builtin _ F.quiet) (xk_let F hT hC (xk_new F hT hC hl ?_))
  show wpAny _ _ _ _ _ _
  unfold isInstance
  repeat (first | with_reducible refine wpAny_loadPart_at hx ?_ | (with_reducible refine wpAny_isSubtype_exc hC' ?_; rw [own]) | wp_step)
  show wpAny _ _ (typeLookup (.ref C) _) _ _ _
  refine (hi.keeps k).at (wpAny_holding (wpAny_bind (((hb _).keeps k).at (wpAny_bind (wpAny_call (codeAny_mono z fun r s' y => ?_))))))
  rcases r with e | (v | _ | _ | _) <;> first | exact y | exact y.elim | skip
  obtain ⟨rfl, y⟩ := y
  first
    | exact wpAny_pure (wpAny_pure y)
    | (wp_walk; exact y)
/-- C(.., k = v) -/
theorem xk_call (F : ExcBaseFacts B nI iI tl) (hT : ∀ X : String, bm.contains (.type X) = tl.contains (.type X)) {us : List Value} {ks : List (Str × Value)} {fI : Addr}
    (hC : h.get? C = some (excClassObj nm q C N bs bm hdct sn sub ab col dd k0 k1 k2 k3 k5 nI)) (hl : us.length ≤ sizeLine)
    (hi : Looks (model prog w) h (typeLookup (.ref C) "__init__") (some (.ref fI))) (hb : ∀ self, Looks (model prog w) h (bindSpecial (.ref fI) self) (.ref fI, [self]))
    (z : codeAny (model prog w) (A.under (.builtin "type.__call__" ⟨.ref C :: us, ks⟩)) (.call (.ref fI) ⟨.ref (h.objs.size + 1) :: us, ks⟩) (InitBack (h.objs.size + 1) R) ⟨(h.push (kdv_tup us)).push (excO C h.objs.size), g, d, t, os⟩) :
    codeAny (model prog w) A (.call (.ref C) ⟨us, ks⟩) R ⟨h, g, d, t, os⟩ := by
  have f1 := tc_lookup
  have f2 := tc_bind (.ref C)
  have ty : (⟨h, g, d, t, os⟩ : Shared).TypeIs (.ref C) "type" := ⟨_, hC, rfl⟩
  refine codeAny_of_tree ?_
  show wpAny _ _ (callAny (.ref C) _) _ _ _
  repeat (any_goals (first | assumption | with_reducible refine wpAny_loadPart_at hC ?_ | wp_step))
  refine ⟨rfl, ?_⟩
  refine codeAny_call_builtin_at (Code.quiet_builtin _ (by decide +kernel)) entry_typeCall (wpAny_check_type_call_sub hC (xk_type F hT hC hl hi hb ?_))
  refine codeAny_mono z fun r s' y => ?_
  rcases r with e | (v | _ | _ | _) <;> exact y
end
end PfX
end PySem

namespace PySem
namespace PfX
open PySem.W PySem.Calls PyProof.Rows PySem.HandSPX
/-! a built-in base of errors, as far as a store of a field asks of it -/
structure XT (B nI iI : String) (tl : List Value) : Prop where
  F : ExcBaseFacts B nI iI tl
  pass : ∀ self, refuseLoop self "__setattr__" tl = pure ()
  ob : tl.contains (.type "object") = true
theorem xt_VE : XT "ValueError" "ValueError.__new__" "ValueError.__init__" [.type "ValueError", .type "Exception", .type "BaseException", .type "object"] := ⟨F.excBase_ValueError, fun s => F.store_ValueError.passes s, by decide +kernel⟩
theorem xt_LE : XT "LookupError" "LookupError.__new__" "LookupError.__init__" [.type "LookupError", .type "Exception", .type "BaseException", .type "object"] := ⟨F.excBase_LookupError, fun s => by kernel_rfl, by decide +kernel⟩
theorem xt_IE : XT "IndexError" "IndexError.__new__" "IndexError.__init__" [.type "IndexError", .type "LookupError", .type "Exception", .type "BaseException", .type "object"] := ⟨F.excBase_IndexError, fun s => by kernel_rfl, by decide +kernel⟩
/-- own classes, then the base's -/
def overT (tl : List Value) : List Value → Bool
  | [] => false
  | v :: r => match v with
    | .ref _ => overT tl r
    | u => (u :: r) == tl
theorem overT_cases {tl : List Value} {v : Value} {r : List Value} (e : overT tl (v :: r) = true) : (∃ c, v = .ref c ∧ overT tl r = true) ∨ v :: r = tl := by
  cases v <;> first | exact .inl ⟨_, rfl, e⟩ | exact .inr (beq_iff_eq.mp e)
theorem overT_pass {B nI iI : String} {tl : List Value} (T : XT B nI iI tl) (self : Value) : ∀ l : List Value, overT tl l = true → refuseLoop self "__setattr__" l = pure ()
  | [], e => nomatch e
  | v :: r, e => by
    rcases overT_cases e with ⟨c, rfl, q⟩ | q
    · rw [refuseLoop_ref]
      exact overT_pass T self r q
    · rw [q]
      exact T.pass self
theorem overT_con {tl : List Value} (X : String) : ∀ l : List Value, overT tl l = true → l.contains (.type X) = tl.contains (.type X)
  | [], e => nomatch e
  | v :: r, e => by
    rcases overT_cases e with ⟨c, rfl, q⟩ | q
    · rw [List.contains_cons, overT_con X r q]
      rfl
    · rw [q]
theorem overT_ne {tl : List Value} : ∀ {l : List Value}, overT tl l = true → l.isEmpty = false
  | [], e => nomatch e
  | _ :: _, _ => rfl
section
open Builtin Builtin.ObjectAttr
variable {prog : Program} {w : World} {A : Around} {R : Result → Shared → Prop} {hp : Heap} {g : Array GenState} {d : Drawn} {t : Nat} {os : OsState}
/-- x.name = v on an error, up to the store in its own dict -/
theorem osa_to {K : Frag} {name : Str} {tk : Tok} {v : Value} {x C : Addr} {od : Option Obj} {ox : Obj} {cd : ClassData} {B nI iI : String} {tl : List Value} (T : XT B nI iI tl)
    (X : K.In hp) (I : InstAt hp x ox C od) (hcd : clsIn K C = some cd) (hm : overT tl cd.mro = true) (ha : findIn K (.ref C) name = some none)
    (z : wpAny (model prog w) (A.under (.builtin "object.__setattr__" ⟨[.ref x, .str name tk, v], []⟩)) (storeInOwnDict (.ref x) (.ref C) (.str name tk) name v false) (fun fin s' => match fin with | .done f => R (.ok f) s' | .again c => c.quiet = true ∧ codeAny (model prog w) A c R s') (fun e s' => R (.error e) s') ⟨hp, g, d, t, os⟩) :
    codeAny (model prog w) A (.call (.builtin "object.__setattr__") ⟨[.ref x, .str name tk, v], []⟩) R ⟨hp, g, d, t, os⟩ := by
  have ob : cd.mro.contains (.type "object") = true := (overT_con _ _ hm).trans T.ob
  have isO : Looks (model prog w) hp (isInstance (.ref x) (.type "object")) true := I.type.andThen (looks_mroIn X (by unfold mroIn; rw [hcd, Option.bind_some, if_neg (by rw [overT_ne hm]; decide), ob]))
  refine codeAny_call_builtin F.store_object.slot.plain F.store_object.entry (@check_slot (model prog w) _ _ ⟨hp, g, d, t, os⟩ "object.__setattr__" "object" "__setattr__" (.ref x) [.str name tk, v] [] _ F.store_object.kind F.store_object.split isO (F.store_object.args (.ref x) (.str name tk) v) ?_)
  have mr : Looks (model prog w) hp (mroOf (.ref C)) cd.mro := (looks_clsIn X hcd).andThen .now
  have no : Looks (model prog w) hp (storeTaker? none) none := .now
  rw [osa_eq, refuse_eq]
  refine wpAny_bind (wpAny_bind (I.type.at (wpAny_bind (mr.at ?_))))
  rw [overT_pass T _ _ hm]
  exact wpAny_pure (wpAny_bind (I.type.at (wpAny_bind ((looks_findIn X ha).at (wpAny_bind (no.at z))))))
end
end PfX
end PySem

namespace PySem
namespace PfX
open PySem.W PySem.Calls PyProof.Rows PySem.HandSPX
section
open Builtin Builtin.ObjectAttr
variable {M : Model} {A : Around} {E : Value → Shared → Prop} {Q : Fin → Shared → Prop} {hp : Heap} {g : Array GenState} {d : Drawn} {t : Nat} {os : OsState}
variable {nm q : Str} {C N x : Addr} {bs bm : List Value} {sn : List Str} {sub : List Value} {ab : Bool} {col : Option Bool} {dd : Option Addr} {k0 k1 k2 k3 k5 : Option Value} {nI : String} {name : Str} {tk : Tok} {v : Value} {fv : Array Value}
/-- the first field of an error: its dict is laid -/
theorem own_first (hC : hp.get? C = some (excClassObj nm q C N bs bm true sn sub ab col dd k0 k1 k2 k3 k5 nI)) (hx : hp.get? x = some { cls := .ref C, data := .fields fv })
    (z : ∀ h' tk' dx, hp.objs.size ≤ dx → (∀ b o, b ≠ x → hp.get? b = some o → h'.get? b = some o) → h'.get? x = some { cls := .ref C, dict := some dx, data := .fields fv } → h'.Ns1 dx (fun y => if y = name then some v else none) → Q (.done (.ret .none)) ⟨h', g, d, tk', os⟩) :
    wpAny M A (storeInOwnDict (.ref x) (.ref C) (.str name tk) name v false) Q E ⟨hp, g, d, t, os⟩ := by
  have new : x ≠ hp.objs.size := Nat.ne_of_lt (Heap.lt_size hx)
  have cl : Looks M hp (classData C) { name := nm, bases := bs, mro := .ref C :: bm, ns := N, qualname := q, hasDict := true, slotNames := sn, subclasses := sub, abstract := ab, collection := col } := by
    intro A' Q' E' s' k q'
    unfold classData
    exact wpAny_bind (wpAny_loadPart (k _ _ hC) (wpAny_pure q'))
  unfold storeInOwnDict ownDictForStores
  repeat (first | with_reducible refine store_in_new ?_ ?_ | with_reducible refine wpAny_loadPart_at hx ?_ | with_reducible refine cl.at ?_ | wp_step)
  · refine ⟨_, #[], _, (Heap.get?_update_ne _ _ _ _ new.symm).trans (Heap.get?_push_at rfl rfl), rfl, fun e he => absurd he (by simp), fun _ => rfl⟩
  · intro h' tk' ns sm
    refine z h' tk' hp.objs.size (Nat.le_refl _) (fun b o ne ho => ?_) ?_ ns
    · exact (sm.2 b (Nat.ne_of_lt (Heap.lt_size ho))).trans ((Heap.get?_update_ne _ _ _ _ ne).trans (Heap.get?_push_of_some _ ho))
    · exact (sm.2 x new).trans (Heap.get?_update_self _ (Heap.get?_push_of_some _ hx) rfl)
/-- a further field -/
theorem own_more {dx : Addr} {m0 : Str → Option Value} {nl : List Str} (hC : hp.get? C = some (excClassObj nm q C N bs bm true sn sub ab col dd k0 k1 k2 k3 k5 nI)) (hx : hp.get? x = some { cls := .ref C, dict := some dx, data := .fields fv })
    (hn : hp.Ns1 dx m0) (hw : Within m0 nl) (hl : nl.length ≤ 1000)
    (z : ∀ h' tk', (∀ b o, b ≠ dx → hp.get? b = some o → h'.get? b = some o) → h'.Ns1 dx (fun y => if y = name then some v else m0 y) → Q (.done (.ret .none)) ⟨h', g, d, tk', os⟩) :
    wpAny M A (storeInOwnDict (.ref x) (.ref C) (.str name tk) name v false) Q E ⟨hp, g, d, t, os⟩ := by
  have cl : Looks M hp (classData C) { name := nm, bases := bs, mro := .ref C :: bm, ns := N, qualname := q, hasDict := true, slotNames := sn, subclasses := sub, abstract := ab, collection := col } := by
    intro A' Q' E' s' k q'
    unfold classData
    exact wpAny_bind (wpAny_loadPart (k _ _ hC) (wpAny_pure q'))
  unfold storeInOwnDict ownDictForStores
  repeat (first | with_reducible refine OEX.store_in_old hn hw hl ?_ | with_reducible refine wpAny_loadPart_at hx ?_ | with_reducible refine cl.at ?_ | wp_step)
  intro h' tk' ns sm
  exact z h' tk' (fun b o ne ho => (sm.2 b ne).trans ho) ns
end
end PfX
end PySem
namespace Pf
open PySem L2 PySem.Spec PyProof.Rows
/-- what the written part says of a class of errors -/
structure XCls (K : PySem.W.Frag) (C : Addr) : Prop where
  cls : ∃ nm q N bs bm sn sub ab col dd k0 k1 k2 k3 k5 B nI iI tl, PySem.PfX.XT B nI iI tl ∧ PySem.PfX.overT tl bm = true ∧ K.lookup C = some (excClassObj nm q C N bs bm true sn sub ab col dd k0 k1 k2 k3 k5 nI)
  sa : PySem.W.findIn K (.ref C) "__setattr__" = some (some (.builtin "object.__setattr__"))
  kC : PySem.W.keepIn K (.ref C) = true
  is : ExcC K C
section
variable {X : Cx} {pins : List (Addr × Obj)} {σ : L2.St} {H : Hp} {s : Shared} {a C dx : Addr} {f : Str} {y : V} {u : Value} {fs : List (Str × V)} {Q : Unit → Shared → Prop} {E : Value → Shared → Prop} {A : Around}
theorem xst_first (T : XCls X.K C) (I : Inv X pins σ H s) (e : H a = some (exo a C none)) (no : PySem.W.findIn X.K (.ref C) f = some none) (ry : RelV y u)
    (h : ∀ dx s', H dx = none → dx ≠ a → Inv X pins σ (upd (upd H a (exo a C (some dx))) dx (exd dx [(f, y)])) s' → Q () s') : wpAny (model X.prog X.w) A (setAttr (.ref a) f u) Q E s := by
  obtain ⟨nm, q, N, bs, bm, sn, sub, ab, col, dd, k0, k1, k2, k3, k5, B, nI, iI, tl, xt, ot, hC⟩ := T.cls
  have hcl : PySem.W.clsIn X.K C = some { name := nm, bases := bs, mro := .ref C :: bm, ns := N, qualname := q, hasDict := true, slotNames := sn, subclasses := sub, abstract := ab, collection := col } := by unfold PySem.W.clsIn; rw [hC] <;> rfl
  obtain ⟨t1, ho⟩ := exo_at I.hok e
  obtain ⟨hp, g, d, t, os⟩ := s
  refine PySem.W.set_plain I.kIn (od := none) ⟨ho, rfl, rfl, trivial⟩ T.sa (PySem.PfX.osa_to xt I.kIn (od := none) ⟨ho, rfl, rfl, trivial⟩ hcl (show PySem.PfX.overT tl (.ref C :: bm) = true from ot) no ?_)
  refine PySem.PfX.own_first (I.kIn _ _ hC) ho fun h' tk' dx le k hx hn => ?_
  have n0 : H dx = none := I.hok.fresh le
  have na : dx ≠ a := fun z => by
    rw [z, e] at n0
    cases n0
  obtain ⟨G, g1, g2⟩ := restrict h' fun b => decide (b ≠ dx)
  have gk : ∀ b, b ≠ dx → G.get? b = h'.get? b := fun b hb => g1 b (decide_eq_true hb)
  have gn : G.get? dx = none := g2 dx (by simp)
  have ga : G.get? a = some { cls := .ref C, dict := some dx, data := .fields #[.ref t1, .none, .none, .none, .bool false, .none] } := (gk a na.symm).trans hx
  have I1 := I.write (h' := G) (t' := tk') (x := a) (e := a) (o := exo a C (some dx)) (by rw [e]; exact True.intro) (.inl rfl) (fun b o ne ho => (gk b (Nat.ne_of_lt (Nat.lt_of_lt_of_le (Heap.lt_size ho) le))).trans (k b o ne ho)) ⟨_, ga⟩ (exo_ok ga)
  refine h dx _ n0 na (I1.laidN (h' := h') (t' := tk') (a := dx) (o := exd dx [(f, y)]) (fun b o ho => ?_) gn (by rw [upd_ne na]; exact n0) (exd_ok hn (relO_put (fs := []) ry fun _ => True.intro)))
  by_cases hb : b = dx
  · subst hb
    exact absurd (gn.symm.trans ho) (by simp)
  · exact (gk b hb).symm.trans ho
theorem xst_more (T : XCls X.K C) (I : Inv X pins σ H s) (e : H a = some (exo a C (some dx))) (ed : H dx = some (exd dx fs)) (hl : fs.length ≤ 900) (no : PySem.W.findIn X.K (.ref C) f = some none) (ry : RelV y u)
    (h : ∀ s', Inv X pins σ (upd H dx (exd dx ((f, y) :: fs))) s' → Q () s') : wpAny (model X.prog X.w) A (setAttr (.ref a) f u) Q E s := by
  obtain ⟨nm, q, N, bs, bm, sn, sub, ab, col, dd, k0, k1, k2, k3, k5, B, nI, iI, tl, xt, ot, hC⟩ := T.cls
  have hcl : PySem.W.clsIn X.K C = some { name := nm, bases := bs, mro := .ref C :: bm, ns := N, qualname := q, hasDict := true, slotNames := sn, subclasses := sub, abstract := ab, collection := col } := by unfold PySem.W.clsIn; rw [hC] <;> rfl
  obtain ⟨t1, ho⟩ := exo_at I.hok e
  obtain ⟨mA, hns, rel⟩ := exd_at I.hok ed
  have hw := within_of rel
  obtain ⟨hp, g, d, t, os⟩ := s
  obtain ⟨oD, _, _, hoD, _, _⟩ := hns.count hw
  refine PySem.W.set_plain I.kIn (od := some oD) ⟨ho, rfl, rfl, hoD⟩ T.sa (PySem.PfX.osa_to xt I.kIn (od := some oD) ⟨ho, rfl, rfl, hoD⟩ hcl (show PySem.PfX.overT tl (.ref C :: bm) = true from ot) no ?_)
  refine PySem.PfX.own_more (I.kIn _ _ hC) ho hns hw (by rw [List.length_map]; omega) fun h' tk' k hn => ?_
  have at_ : ∃ o, h'.get? dx = some o := by
    obtain ⟨o, _, _, e', _⟩ := hn
    exact ⟨o, e'⟩
  exact h _ (I.write (t' := tk') (x := dx) (e := dx) (o := exd dx ((f, y) :: fs)) (by rw [ed]; exact True.intro) (.inl rfl) k at_ (exd_ok hn (relO_put ry rel)))
end
/-- self.f = e, self an error -/
def tXst (K : PySem.W.Frag) (f : Str) (to te : TE) : TS := fun D σ H => te σ H fun y H1 => to σ H1 fun x H2 => ∃ a C : Addr, x = .ref a ∧ XCls K C ∧ PySem.W.findIn K (.ref C) f = some none ∧
  ((H2 a = some (exo a C none) ∧ ∀ dx, H2 dx = none → dx ≠ a → D.nx σ (upd (upd H2 a (exo a C (some dx))) dx (exd dx [(f, y)]))) ∨
    ∃ (dx : Addr) (fs : List (Str × V)), H2 a = some (exo a C (some dx)) ∧ H2 dx = some (exd dx fs) ∧ fs.length ≤ 900 ∧ D.nx σ (upd H2 dx (exd dx ((f, y) :: fs))))
section
variable {X : Cx} {o e : Expr} {es : List Expr} {to te : TE} {ta : TA} {f : Str} {p p' pos : Pos}
theorem ps_xst (ho : PE X o to) (he : PE X e te) (hs : swapsWith e (some (.Attribute o f p')) pos.line X.env = pure false := by rfl) : PS X (.Assign [.Attribute o f p'] e pos) (tXst X.K f to te) := by
  refine ⟨fun pins s σ H D I h => ?_⟩
  refine plainObj_wpAny_Assign_Attribute (thn (he.run pins s σ H _ I h) fun v s1 ⟨y, H1, I1, r1, q1⟩ => thn (ho.run pins s1 σ H1 _ I1 q1) fun u s2 ⟨x, H2, I2, r2, a, C, ex, T, no, q⟩ => ?_) hs
  subst ex
  obtain rfl : u = Value.ref a := r2
  rcases q with ⟨ea, q⟩ | ⟨dx, fs, ea, ed, hl, q⟩
  · exact xst_first T I2 ea no r1 fun dx s' n ne J => ⟨σ, _, J, q dx n ne⟩
  · exact xst_more T I2 ea ed hl no r1 fun s' J => ⟨σ, _, J, q⟩
end
end Pf

namespace Pf
open PySem L2 PySem.Spec PyProof.Rows
section
variable {X : Cx} {CX : CXT} {k n : Nat} {f C : Addr} {fd : FuncData} {ps ks : List Str} {sp : Sp} {E : XK} {x : Str} {p pos : Pos} {e : Expr} {es : List Expr} {kws : List Keyword} {t tk : TA} {g : List Value → List Value → List Value} {gV : List V → List V → List V}
end
/-! ### reading a field, asking for the class -/
end Pf

namespace Pf
open PySem L2
/-! ### a class of errors, asked by the kernel -/
def tailVE : List Value := [.type "ValueError", .type "Exception", .type "BaseException", .type "object"]
def tailLE : List Value := [.type "LookupError", .type "Exception", .type "BaseException", .type "object"]
def tailIE : List Value := [.type "IndexError", .type "LookupError", .type "Exception", .type "BaseException", .type "object"]
def clsB (K : PySem.W.Frag) (C : Addr) : Bool := match K.lookup C with
  | some ⟨.type t, dd, .cls ⟨nm, bs, .ref c :: bm, N, q, hd, sn, sub, ab, col, del⟩, ⟨[k0, k1, k2, k3, some (.builtin nI), k5]⟩⟩ =>
    ((t == "type" && c == C) && (hd && !del)) && ((nI == "ValueError.__new__" && PfX.overT tailVE bm) || ((nI == "LookupError.__new__" && PfX.overT tailLE bm) || (nI == "IndexError.__new__" && PfX.overT tailIE bm)))
  | _ => false
theorem clsB_ok {K : PySem.W.Frag} {C : Addr} (h : clsB K C = true) : ∃ nm q N bs bm sn sub ab col dd k0 k1 k2 k3 k5 B nI iI tl, PfX.XT B nI iI tl ∧ PfX.overT tl bm = true ∧ K.lookup C = some (excClassObj nm q C N bs bm true sn sub ab col dd k0 k1 k2 k3 k5 nI) := by
  unfold clsB at h
  split at h
  · rename_i t dd nm bs c bm N q hd sn sub ab col del k0 k1 k2 k3 nI k5 e
    simp only [Bool.and_eq_true, Bool.or_eq_true, beq_iff_eq, Bool.not_eq_true'] at h
    obtain ⟨⟨⟨e1, e2⟩, e3, e4⟩, h⟩ := h
    subst e1 e2 e3 e4
    rcases h with ⟨e5, h⟩ | ⟨e5, h⟩ | ⟨e5, h⟩ <;> subst e5
    · exact ⟨nm, q, N, bs, bm, sn, sub, ab, col, dd, k0, k1, k2, k3, k5, _, _, _, _, PfX.xt_VE, h, e⟩
    · exact ⟨nm, q, N, bs, bm, sn, sub, ab, col, dd, k0, k1, k2, k3, k5, _, _, _, _, PfX.xt_LE, h, e⟩
    · exact ⟨nm, q, N, bs, bm, sn, sub, ab, col, dd, k0, k1, k2, k3, k5, _, _, _, _, PfX.xt_IE, h, e⟩
  · cases h
/-- all that is asked of a class of errors whose __init__ is fI, and whose instances have the fields fs of their own -/
def xcB (K : PySem.W.Frag) (C fI : Addr) (fs : List Str) : Bool := clsB K C && (decide (PySem.W.findIn K (.ref C) "__setattr__" = some (some (.builtin "object.__setattr__"))) && (PySem.W.keepIn K (.ref C) && (decide (PySem.W.findIn K (.ref C) "__getattribute__" = some (some (.builtin "BaseException.__getattribute__"))) &&
  (decide (PySem.W.findIn K (.ref C) "__getattr__" = some none) && (decide (PySem.W.subIn K (.ref C) (.type "BaseException") = some true) && (PySem.W.hasDictIn K C && (decide (PySem.W.findIn K (.ref C) "__class__" = some (some (.builtin "object.__class__"))) &&
  (decide (PySem.W.specialIn K (.builtin "object.__class__") "__get__" = some (some (.builtin "getset_descriptor.__get__"))) && (decide (PySem.W.takesIn K (.builtin "object.__class__") = some true) && (decide (PySem.W.mroIn K C (.type "object") = some true) &&
  (decide (PySem.W.typeIn K (.ref fI) = some (.type "function")) && (decide (PySem.W.findIn K (.ref C) "__init__" = some (some (.ref fI))) && fs.all fun f => decide (PySem.W.findIn K (.ref C) f = some none)))))))))))))
structure XAll (K : PySem.W.Frag) (C fI : Addr) (fs : List Str) : Prop where
  x : XCls K C
  tI : PySem.W.typeIn K (.ref fI) = some (.type "function")
  iC : PySem.W.findIn K (.ref C) "__init__" = some (some (.ref fI))
  no : ∀ f ∈ fs, PySem.W.findIn K (.ref C) f = some none
theorem xcB_ok {K : PySem.W.Frag} {C fI : Addr} {fs : List Str} (h : xcB K C fI fs = true) : XAll K C fI fs := by
  unfold xcB at h
  simp only [Bool.and_eq_true, decide_eq_true_eq, List.all_eq_true] at h
  obtain ⟨h1, h2, h3, h4, h5, h6, h7, h8, h9, h10, h11, h12, h13, h14⟩ := h
  exact ⟨⟨clsB_ok h1, h2, h3, ⟨h4, h5, h6, h7, h8, h9, h10, h11⟩⟩, h12, h13, h14⟩
/-! the classes beneath one another -/
structure KindsAt (K : PySem.W.Frag) (pe mi nl c : Addr) (i : Nat) : Prop where
  k1 : PySem.W.kitOne K (.ref c) (.type "ValueError") = some (decide (i < 22))
  k2 : PySem.W.kitOne K (.ref c) (.ref pe) = some (decide (i < 22))
  k3 : PySem.W.kitOne K (.ref c) (.type "LookupError") = some (decide (21 < i))
  k4 : PySem.W.kitOne K (.ref c) (.ref mi) = some (decide (21 < i) && decide (i < 24))
  k5 : PySem.W.kitOne K (.ref c) (.type "IndexError") = some (i == 24)
  k6 : PySem.W.kitOne K (.ref c) (.ref nl) = some (i == 24)
  k7 : PySem.W.kitOne K (.ref c) (.type "KeyError") = some false
/-! ### errors on data -/
section
variable {F : Fm} {δ : List SD} {te : TE} {t tk : TA} {P : D → Prop} {f : Str} {C : Addr} {fs : List (Str × D)} {y : D}
end
def postX1 (cd f : Str) : List D → List (Str × D) → Prop := fun ds gs => ∃ d, ds = [d] ∧ gs = [(f, d), (("code" : Str), D.str cd)]
/-! ### bodies: self.code = text, self.f = copied(value) -/
section
variable {K : PySem.W.Frag} {C : Addr} {N : List Str} {vs : List V} {H : Hp} {Q : VK} {E E' : XK} {cd f : Str} {PreC : List D → Prop}
theorem same_upd2 {H1 : Hp} {a dx : Addr} {o u : HO} (ha : H1 a = none) (hd : H1 dx = none) : Same H1 (upd (upd H1 a o) dx u) := fun b w e => by
  rw [upd_ne (ne_of_none e hd), upd_ne (ne_of_none e ha)]
  exact e
theorem upd_over {H : Hp} {a : Addr} {o u : HO} : upd (upd H a o) a u = upd H a u := by
  funext b
  by_cases h : b = a
  · subst h
    rw [upd_same, upd_same]
  · rw [upd_ne h, upd_ne h, upd_ne h]
end
end Pf

namespace Pf
open PySem L2 PySem.Spec PyProof.Rows
/-! ### an error made to be raised: over any built-in base, with keywords too -/
/-- raise C(e, .., k = v, ..): the error is let go, its dict stands as an error's dict -/
def tMkX (C : Addr) (n m : Nat) (sp : Sp) (gV : List V → List V → List V) (t tk : TA) : L2.St → Hp → XK → Prop := fun σ H Q => t σ H fun vs H1 => tk σ H1 fun zs H2 => vs.length = n ∧ zs.length = m ∧ n ≤ 1000 ∧ ∀ a, H2 a = none →
  sp (gV (.ref a :: vs) zs) (upd H2 a (exo a C none)) (fun v H3 => v = .non ∧ ∃ (d : Addr) (fs : List (Str × V)), H3 a = some (exo a C (some d)) ∧ H3 d = some (exd d fs) ∧ H2 d = none ∧ Q (.ref C) (some d) (upd (del H3 a) d (.xd fs))) (fun _ _ _ => False)
theorem XCls.ty {K : PySem.W.Frag} {C : Addr} (T : XCls K C) : PySem.W.typeIn K (.ref C) = some (.type "type") := by
  obtain ⟨nm, q, N, bs, bm, sn, sub, ab, col, dd, k0, k1, k2, k3, k5, B, nI, iI, tl, xt, ot, hC⟩ := T.cls
  show Option.map (fun x => x.cls) (List.lookup C K) = some (.type "type")
  rw [hC]
  rfl
section
variable {X : Cx} {CX : CXT} {k n : Nat} {f C : Addr} {fd : FuncData} {ps ks : List Str} {sp : Sp} {E : XK} {x : Str} {p pos : Pos} {e : Expr} {es : List Expr} {kws : List Keyword} {t tk : TA} {g : List Value → List Value → List Value} {gV : List V → List V → List V}
theorem run_mkX {pins : List (Addr × Obj)} {σ : L2.St} {H : Hp} {s : Shared} {Q : XK} {us ws : List Value} {vs zs : List V} (T : XCls X.K C) (iC : PySem.W.findIn X.K (.ref C) "__init__" = some (some (.ref f))) (tI : PySem.W.typeIn X.K (.ref f) = some (.type "function"))
    (F : FnOk X.prog X.w X.K X.mg X.base CX k f fd ps sp) (hr : Room (k + 1) X.A) (hb : KBn X.K fd ps (n + 1) ks g gV) (hx : Passes CX X (fun _ _ _ => False)) (I : Inv X pins σ H s) (r : Vals vs us) (rz : Vals zs ws) (l1 : vs.length = n) (l2 : zs.length = ks.length) (l3 : n ≤ 1000)
    (h : ∀ a, H a = none → sp (gV (.ref a :: vs) zs) (upd H a (exo a C none)) (fun v H3 => v = .non ∧ ∃ (d : Addr) (fs : List (Str × V)), H3 a = some (exo a C (some d)) ∧ H3 d = some (exd d fs) ∧ H d = none ∧ Q (.ref C) (some d) (upd (del H3 a) d (.xd fs))) (fun _ _ _ => False)) :
    wpAny (model X.prog X.w) X.A (call (.ref C) us (ks.zip ws)) (MkP X pins σ Q) X.xe s := by
  obtain ⟨nm, q, N, bs, bm, sn, sub, ab, col, dd, k0, k1, k2, k3, k5, B, nI, iI, tl, xt, ot, hC⟩ := T.cls
  obtain ⟨hp, gs, dr, tok, os⟩ := s
  have le : hp.objs.size ≤ hp.objs.size + 1 := Nat.le_succ _
  have keep : ∀ b o, hp.get? b = some o → ((hp.push (PySem.W.kdv_tup us)).push (PySem.HandSPX.excO C hp.objs.size)).get? b = some o := fun b o e => Heap.get?_push_of_some _ (Heap.get?_push_of_some _ e)
  have new : ((hp.push (PySem.W.kdv_tup us)).push (PySem.HandSPX.excO C hp.objs.size)).get? (hp.objs.size + 1) = some (PySem.HandSPX.excO C hp.objs.size) := by heap_get
  have I2 : Inv X pins σ (upd H (hp.objs.size + 1) (exo (hp.objs.size + 1) C none)) ⟨(hp.push (PySem.W.kdv_tup us)).push (PySem.HandSPX.excO C hp.objs.size), gs, dr, tok, os⟩ :=
    I.laid (t' := tok) (a := hp.objs.size + 1) (o := exo (hp.objs.size + 1) C none) keep le (exo_ok new)
  have n1 : (Value.ref (hp.objs.size + 1) :: us).length = n + 1 := by rw [List.length_cons, ← r.length, l1]
  have sz : us.length ≤ sizeLine := by
    rw [← r.length, l1, sizeLine_eq]
    omega
  have r1 : Vals (V.ref (hp.objs.size + 1) :: vs) (Value.ref (hp.objs.size + 1) :: us) := .cons rfl r
  have hq := h (hp.objs.size + 1) (I.hok.fresh le)
  refine wpAny_call (PySem.PfX.xk_call xt.F (fun Y => PySem.PfX.overT_con Y bm ot) (I.kIn _ _ hC) sz (PySem.W.looks_findIn I.kIn iC) (fun self => PySem.W.bind_fn I.kIn self tI)
    (codeAny_mono (F.run _ X.stack _ _ ⟨Value.ref (hp.objs.size + 1) :: us, ks.zip ws⟩ (g (Value.ref (hp.objs.size + 1) :: us) ws) _ _ (fun _ _ _ => False) (hr.make C us (ks.zip ws)) (I2.env0.make C us (ks.zip ws)) (hb.to _ (Value.ref (hp.objs.size + 1) :: us) ws I2.kIn n1 (rz.length.symm.trans l2)) (hb.rel r1 rz) hq) fun r s' hq' => ?_))
  cases r with
  | error e => exact hx pins σ _ _ e s' I2 hq'
  | ok fl =>
    cases fl with
    | ret u =>
      obtain ⟨v, H2, o2, b2, un2, hok2, rv, ev, d, fs, ea, ed, hd1, q2⟩ := hq'
      subst ev
      obtain ⟨h2, g2, d2, t2, os'⟩ := s'
      exact ⟨rv, mk_end (raises_own T.is.hs T.ty) I le keep un2 hok2 o2 b2 ea ed hd1 q2⟩
    | next => exact False.elim hq'
    | brk => exact False.elim hq'
    | cont => exact False.elim hq'
/-- C(e, .., k = v, ..) -/
theorem pmk_x (T : XCls X.K C) (iC : PySem.W.findIn X.K (.ref C) "__init__" = some (some (.ref f))) (tI : PySem.W.typeIn X.K (.ref f) = some (.type "function")) (F : FnOk X.prog X.w X.K X.mg X.base CX k f fd ps sp) (hr : Room (k + 1) X.A) (hg : Gl X x) (hm : X.mg x = some (.ref C)) (hb : KBn X.K fd ps (n + 1) ks g gV) (hx : Passes CX X (fun _ _ _ => False)) (ha : PA X (e :: es) t) (hkw : PK X kws tk)
    (hall : (backToKw pos (keywordEach kws X.env)).all (·.1.isSome) = true := by rfl) (hks : (backToKw pos (keywordEach kws X.env)).filterMap (·.1) = ks := by rfl) (hdb : (x == ("__debug__" : Str)) = false := by decide)
    (he : starEach (e :: es) X.env = (false, eval e X.env) :: starEach es X.env := by rfl) (hpl : ((backTo pos (starEach (e :: es) X.env)).any (·.1) || (backToKw pos (keywordEach kws X.env)).any (·.1.isNone)) = false := by rfl) :
    PMk X (.Call (.Name x p) (e :: es) kws pos) (tMkX C n ks.length sp gV t tk) := fun pins s σ H Q I h => by
  refine wpAny_Call_Name_kw (ld_glob I hg hm ?_ hdb)
  refine PySem.W.callWith_KW (h₀ := X.base) I.ok.mod.kin T.kC hall (thn (ha.run pos pins s σ H _ I h) fun us s1 ⟨vs, H1, I1, r, q⟩ => ?_) hpl he
  refine thn (hkw.run pos pins s1 σ H1 _ I1 q) fun ws s2 ⟨zs, H2, I2, rz, l1, l2, l3, q2⟩ => ⟨I2.kIn, ?_⟩
  rw [hks]
  exact run_mkX T iC tI F hr hb hx I2 r rz l1 l2 l3 q2
end
end Pf

namespace Pf
open PySem L2
/-! ### the promise of an __init__ of errors, so that its error can be kept as a value or raised -/
def spY (K : PySem.W.Frag) (C : Addr) (Pre : List D → Prop) (Post : List D → List (Str × D) → Prop) : Sp := fun vs H Q _ => ∃ (M : Addr → Bool) (H1 : Hp) (a : Addr) (ws : List V) (ds : List D), vs = .ref a :: ws ∧ H1 a = none ∧ H = upd H1 a (exo a C none) ∧ Al M H1 ∧ RepL K (hd M H1) ws ds ∧ Pre ds ∧
  ∀ H2 gs dx fvs, Post ds gs → Same H1 H2 → H1 dx = none → dx ≠ a → H2 a = some (exo a C (some dx)) → H2 dx = some (exd dx fvs) → RepF K (hd (hid (hid M a) dx) H2) fvs gs → Q .non H2
section
variable {K : PySem.W.Frag} {C : Addr} {N : List Str} {vs : List V} {H : Hp} {Q : VK} {E E' : XK} {cd f : Str} {Pre : List D → Prop} {Post : List D → List (Str × D) → Prop}
theorem spY_len {n : Nat} (h : ∀ ds, Pre ds → ds.length = n) (s : spY K C Pre Post vs H Q E) : vs.length = n + 1 := by
  obtain ⟨M, H1, a, ws, ds, rfl, _, _, _, r, pre, _⟩ := s
  rw [List.length_cons, r.length, h ds pre]
/-- self.code = text, self.f = copied(value) -/
theorem initY1 (T : XCls K C) (n1 : PySem.W.findIn K (.ref C) "code" = some none) (n2 : PySem.W.findIn K (.ref C) f = some none) (hs : spY K C Pre (postX1 cd f) vs H Q E) (hl : ∀ ds, Pre ds → ds.length = 1) :
    tSeq (tXst K "code" (tVar 0) (tC (.str cd))) (tXst K f (tVar 0) (tCall (spD K Pre fun ds d => ds = [d]) [] E' (tCons (tVar 1) tNil))) { nx := fun _ H' => Q .non H', rt := Q } (L2.start N vs) H := by
  obtain ⟨M, H1, a, ws, ds, rfl, ha, rfl, al, r, pre, q⟩ := hs
  match ws, r.length.trans (hl ds pre) with
  | [w], _ =>
  refine ⟨.ref a, rfl, a, C, rfl, T, n1, .inl ⟨upd_same, fun dx hx ne => ?_⟩⟩
  have hx1 : H1 dx = none := by
    rw [upd_ne ne] at hx
    exact hx
  rw [upd_over]
  have s : Same H1 (upd (upd H1 a (exo a C (some dx))) dx (exd dx [(("code" : Str), V.str cd)])) := same_upd2 ha hx1
  refine ⟨w, rfl, hid (hid M a) dx, ds, fun b m => ?_, ?_, pre, fun v d H3 pd s3 r3 => ?_⟩
  · by_cases e1 : b = dx
    · subst e1
      exact ⟨_, upd_same⟩
    by_cases e2 : b = a
    · subst e2
      exact ⟨_, by rw [upd_ne e1, upd_same]⟩
    rw [hid_ne e1, hid_ne e2] at m
    obtain ⟨o, h⟩ := al b m
    exact ⟨o, s _ _ h⟩
  · rw [List.append_nil]
    refine r.mono fun b o h => ?_
    obtain ⟨m, h⟩ := hd_of h
    exact hd_at (by rw [hid_ne (ne_of_none h hx1), hid_ne (ne_of_none h ha)]; exact m) (s _ _ h)
  have ea : H3 a = some (exo a C (some dx)) := s3 _ _ (by rw [upd_ne ne.symm, upd_same])
  have ed : H3 dx = some (exd dx [(("code" : Str), V.str cd)]) := s3 _ _ upd_same
  refine ⟨.ref a, rfl, a, C, rfl, T, n2, .inr ⟨dx, _, ea, ed, by simp, ?_⟩⟩
  have r4 : Rep K (hd (hid (hid M a) dx) (upd H3 dx (exd dx [(f, v), (("code" : Str), V.str cd)]))) v d := r3.mono fun b o h => by
    obtain ⟨m, h⟩ := hd_of h
    have nb : b ≠ dx := fun e => by
      rw [e, hid_same] at m
      cases m
    exact hd_at m (by rw [upd_ne nb]; exact h)
  exact q _ _ dx _ ⟨d, pd, rfl⟩ (fun b o h => by
    rw [upd_ne (ne_of_none h hx1)]
    exact s3 _ _ (s _ _ h)) hx1 ne (by rw [upd_ne ne.symm]; exact ea) upd_same (.cons r4 (.cons (.str cd) .nil))
end
/-! ### raise on data -/
/-- what the frame wishes of an error that leaves it -/
def RaiseOk (F : Fm) (PX : Addr → List (Str × D) → Prop) : Prop := ∀ (C : Addr) (gs : List (Str × D)) (dx : Addr) (fvs : List (Str × V)) (H' : Hp), PX C gs → StepB F.mv F.H0 H' → F.H0 dx = none → H' dx = some (.xd fvs) → RepF F.K (hd F.M0 H') fvs gs → F.E (.ref C) (some dx) H'
section
variable {F : Fm} {δ : List SD} {t tk : TA} {C : Addr} {R : PD} {PX : Addr → List (Str × D) → Prop}
theorem do_raiseX {n m : Nat} {gV : List V → List V → List V} {gD : List D → List D → List D} {Pre : List D → Prop} {Post : List D → List (Str × D) → Prop}
    (hg : ∀ (H : Hp) (x : V) (vs zs : List V) (ds es : List D), RepL F.K H vs ds → RepL F.K H zs es → ds.length = n → es.length = m → ∃ ws, gV (x :: vs) zs = x :: ws ∧ RepL F.K H ws (gD ds es))
    (ok : RaiseOk F PX) (h : EvA F t δ fun ds => EvA F tk δ fun es => ds.length = n ∧ es.length = m ∧ n ≤ 1000 ∧ Pre (gD ds es) ∧ ∀ gs, Post (gD ds es) gs → PX C gs) :
    Do F (fun _ σ H => tMkX C n m (spY F.K C Pre Post) gV t tk σ H fun cls d H' => F.E cls d H') δ R := fun M σ H E c _ _ _ _ =>
  h M σ H _ c fun vs ds H1 p1 c1 e1 r1 => p1 M σ H1 _ c1 fun zs es H2 p2 c2 e2 r2 => by
    obtain ⟨l1, l2, l3, pre, po⟩ := p2
    have r1' := r1.mono (hd_step c1 e2)
    refine ⟨by rw [r1.length, l1], by rw [r2.length, l2], l3, fun a ha => ?_⟩
    obtain ⟨ws, ew, rw'⟩ := hg _ (.ref a) vs zs ds es r1' r2 l1 l2
    rw [ew]
    refine ⟨M, H2, a, ws, gD ds es, rfl, ha, rfl, c2.al, rw', pre, fun H3 gs dx fvs pg s hx ne ea ed rf => ⟨rfl, dx, fvs, ea, ed, hx, ?_⟩⟩
    have none0 : ∀ {b : Addr}, H2 b = none → ¬ F.mv b := fun hb => c2.nob hb
    have back : ∀ {b : Addr}, H2 b = none → F.H0 b = none := fun {b} hb => by
      cases z : F.H0 b with
      | none => rfl
      | some o =>
        rw [c2.fr b o (none0 hb) z] at hb
        cases hb
    have s4 : Same H2 (upd (del H3 a) dx (.xd fvs)) := fun b o h => by
      rw [upd_ne (ne_of_none h hx), del_ne (ne_of_none h ha)]
      exact s _ _ h
    refine ok C gs dx fvs _ (po gs pg) (c2.fr.trans (StepB.of s4)) (back hx) upd_same (rf.mono fun b o h => ?_)
    obtain ⟨m, h⟩ := hd_of h
    have nb : b ≠ dx := fun e => by
      rw [e, hid_same] at m
      cases m
    have na : b ≠ a := fun e => by
      rw [hid_ne nb, e, hid_same] at m
      cases m
    rw [hid_ne nb, hid_ne na] at m
    refine hd_at ?_ (by rw [upd_ne nb, del_ne na]; exact h)
    cases e : F.M0 b with
    | false => rfl
    | true =>
      rw [c2.m0 b e] at m
      cases m
end
end Pf

namespace Pf
open PySem L2
/-! ### defs that may raise -/
/-- a promise on data, of an answer or of an error -/
def spR (K : PySem.W.Frag) (Pre : List D → Prop) (Post : List D → D → Prop) (PX : List D → Addr → List (Str × D) → Prop) : Sp := fun vs H Q E => ∃ (M : Addr → Bool) (ds : List D), Al M H ∧ RepL K (hd M H) vs ds ∧ Pre ds ∧
  (∀ v d H', Post ds d → Same H H' → Rep K (hd M H') v d → Q v H') ∧ ∀ C gs dx fvs H', PX ds C gs → Same H H' → H dx = none → H' dx = some (.xd fvs) → RepF K (hd M H') fvs gs → E (.ref C) (some dx) H'
section
variable {K : PySem.W.Frag} {vs : List V} {H : Hp} {Q : VK} {E : XK} {N : List Str} {t : TS} {Pre : List D → Prop} {Post : List D → D → Prop} {PX : List D → Addr → List (Str × D) → Prop}
theorem spR_len {n : Nat} (h : ∀ ds, Pre ds → ds.length = n) (s : spR K Pre Post PX vs H Q E) : vs.length = n := by
  obtain ⟨M, ds, _, r, pre, _⟩ := s
  rw [r.length, h ds pre]
/-- into a def that may raise -/
theorem enterR (hs : spR K Pre Post PX vs H Q E) (hb : ∀ (M : Addr → Bool) (ds : List D), Pre ds → ds.length = vs.length → RaiseOk ⟨K, none, M, H, E, 0, []⟩ (PX ds) → Do ⟨K, none, M, H, E, 0, []⟩ t (slots N ds) { nx := fun _ => Post ds .non, rt := Post ds }) :
    t { nx := fun _ H' => Q .non H', rt := Q } (L2.start N vs) H := by
  obtain ⟨M, ds, al, r, pre, q, qx⟩ := hs
  have hl := r.length
  have c : Ctx ⟨K, none, M, H, E, 0, []⟩ M (L2.start N vs) H (slots N ds) := by
    refine ⟨al, al, fun _ h => h, StepB.refl _ _, ⟨fun b z => (nomatch z), fun a h => (nomatch h)⟩, ?_, ?_, fun i j p es fs h1 h2 => absurd h1 no_own, fun i p es h => absurd h no_own⟩
    · unfold L2.start slots
      rw [List.length_append, List.length_append, List.length_map, List.length_map, List.length_replicate, List.length_replicate, hl]
    · unfold L2.start slots
      rw [hl]
      exact sl_base rfl _ r
  have ok : RaiseOk ⟨K, none, M, H, E, 0, []⟩ (PX ds) := fun C gs dx fvs H' px s h0 hx rf => qx C gs dx fvs H' px (fun a o h => s a o (mv_none rfl rfl a) h) h0 hx rf
  refine hb M ds pre hl.symm ok M _ H _ c (fun M' σ' H' δ' p c' s => ?_) (fun v d M' σ' H' δ' p c' s r' => ?_) (fun _ _ _ _ p => p.elim) (fun _ _ _ _ p => p.elim)
  · exact q _ _ H' p (fun a o h => c'.fr a o (mv_none rfl rfl a) h) .non
  · exact q v d H' p (fun a o h => c'.fr a o (mv_none rfl rfl a) h) (r'.mono (same_hd_le fun a h => c'.m0 a h))
end
section
variable {F : Fm} {δ : List SD} {ta : TA} {P : D → Prop} {Pre : List D → Prop} {Post : List D → D → Prop} {PX : List D → Addr → List (Str × D) → Prop} {QX : Addr → List (Str × D) → Prop}
/-- a call of a def that may raise: its errors leave the frame -/
theorem ev_callR (ok : RaiseOk F QX) (h : EvA F ta δ fun ds => Pre ds ∧ (∀ d, Post ds d → P d) ∧ ∀ C gs, PX ds C gs → QX C gs) : Ev F (tCall (spR F.K Pre Post PX) [] F.E ta) δ P := fun M σ H Q c q =>
  h M σ H _ c fun vs ds H1 p c1 e1 r => by
    rw [List.append_nil]
    refine ⟨M, ds, c1.al, r, p.1, fun v d H2 pd s r2 => q v d H2 (p.2.1 d pd) (c1.same s) (e1.trans (StepB.of s)) r2, fun C gs dx fvs H2 px s hx hd' rf => ?_⟩
    have back : F.H0 dx = none := by
      cases z : F.H0 dx with
      | none => rfl
      | some o =>
        have nb : ¬ F.mv dx := c1.nob hx
        rw [c1.fr dx o nb z] at hx
        cases hx
    exact ok C gs dx fvs H2 (p.2.2 C gs px) (c1.fr.trans (StepB.of s)) back hd' (rf.mono (same_hd_le fun a m => c1.m0 a m))
end
end Pf

/-! try .. except (A, B, C) as e: the clause's tuple is made in the heap, untracked -/
namespace PfT
open PySem PySem.Spec PyProof.Rows L2 L2H HandSPX
theorem fly_grow {base h h' : Heap} {l : List Env} {e : Addr} {Z : Obj → Prop} (f : FlyingZ base l e Z h) (k : ∀ b o, h.get? b = some o → h'.get? b = some o) : FlyingZ base l e Z h' := by
  obtain ⟨f1, f2, f3, oe, vs, T, oT, ts, g1, g2, g3, g4, g5, g6, g7, g8, g9⟩ := f
  refine ⟨fun b o z => k _ _ (f1 b o z), f2, ?_, oe, vs, T, oT, ts, k _ _ g1, g2, g3, g4, g5, g6, k _ _ g7, g8, g9⟩
  clear f1 f2 g1 g2 g3 g4 g5 g6 g7 g8 g9
  induction l with
  | nil => trivial
  | cons env l ih =>
    obtain ⟨m, ⟨L, o, q1, q2, q3, q4⟩, r⟩ := f3
    exact ⟨m, ⟨L, o, q1, q2, k _ _ q3, q4⟩, ih r⟩
theorem slots_grow {h h' : Heap} (k : ∀ b o, h.get? b = some o → h'.get? b = some o) : h.UpToSlots h' := fun b o z _ => ⟨o.slots, k b o z⟩
/-- what the clause 'except (..) as n' wishes of an error of the body: slot i is n's -/
def wAsT (K : PySem.W.Frag) (cs : List Value) (i : Nat) (ts : Addr → Value → Option Addr → TS) (Wout : WX) (D : Ends) : WX := fun cls d σ H =>
  ∃ b, PySem.W.exmAny K cls cs = some b ∧ (b = true → ∀ a, H a = none → ts a cls d { nx := fun σ' H' => D.nx (σ'.set i none) H', rt := D.rt, bk := fun σ' H' => D.bk (σ'.set i none) H', ct := fun σ' H' => D.ct (σ'.set i none) H' } (σ.set i (some (.ref a))) H) ∧
    (b = false → Wout cls d σ H)
/-- the clause's expression tells these classes -/
def Tells (X : Cx) (ty : Expr) (cs : List Value) : Prop := ∀ (a : Addr) (oe : Obj) (pn : List (Addr × Obj)) (σ : L2.St) (H : Hp) (s : Shared) (Q : Value → Shared → Prop) (E : Value → Shared → Prop), Inv (X.suite a ((a, oe) :: pn)) [] σ H s →
  (∀ spec h2, (∀ b o, s.heap.get? b = some o → h2.get? b = some o) → (∀ cls b, PySem.W.Looks (model X.prog X.w) h2 (typeOf (.ref a)) cls → PySem.W.exmAny X.K cls cs = some b → PySem.W.Looks (model X.prog X.w) h2 (excMatches (.ref a) spec) b) → Q spec { s with heap := h2 }) →
  wpAny (model X.prog X.w) (X.A.mark (some (.ref a))) (eval ty X.env) Q E s
section
variable {X : Cx} {n : Str} {ty : Expr} {cs : List Value} {i : Nat} {body suite : List Stmt} {b₀ : Stmt} {pos pos' : Pos} {tb : WX → TS} {ts : Addr → Value → Option Addr → TS} {Wout : WX}
theorem ps_try_asT (hs : X.stack = X.env :: X.outer) (hf : X.env.frame = some X.env.locals) (hN : X.N.Nodup) (hi : X.N[i]? = some n) (hln : X.env.kindOf n = some .local) (tell : Tells X ty cs) (tk : L2.Takes X Wout)
    (hb : ∀ (W : WX) (pn : List (Addr × Obj)) (xe : Value → Shared → Prop), (∀ q ∈ X.pn, q ∈ pn) → L2.Takes (X.tr pn xe) W → PassesOwn (model X.prog X.w) X.A X.env xe → PSs (X.tr pn xe) body (tb W))
    (hsu : ∀ (a : Addr) (oe : Obj) (cls : Value) (d : Option Addr) (pn : List (Addr × Obj)), Zc cls d oe → (∃ vs, oe.data = .fields vs) → PSs (X.suite a ((a, oe) :: pn)) (b₀ :: suite) (ts a cls d)) :
    PS X (.Try body [.ExceptHandler (some ty) (some n) (b₀ :: suite) pos'] [] [] pos) (fun D σ H => tb (wAsT X.K cs i ts Wout D) D σ H) := by
  refine ⟨fun pins s σ H D I h => ?_⟩
  have ok := I.ok
  have frames : X.A.frames = some (X.env :: X.outer) := by rw [ok.frames, hs]
  have loc : Loc X.env.scope n := .inl hln
  refine wpAny_Try_except (wpAny_mono ((hb (wAsT X.K cs i ts Wout D) (X.pn ++ pins) (fun e s₁ => wpAny (model X.prog X.w) X.A (noteFrame e X.env) (fun _ s₂ => wpAny (model X.prog X.w) X.A (setFlight e none) (fun _ s₃ =>
    wpAny (model X.prog X.w) X.A (handleBy e X.env [.ExceptHandler (some ty) (some n) (b₀ :: suite) pos']) (SP X pins D) X.xe s₃) X.xe s₂) X.xe s₁) (fun q hq => List.mem_append_left _ hq) (fun u s' xx => ?_) PassesOwn.looking).run [] s σ H D (I.toTry _) h) (fun f s1 sp => ?_) (fun e s1 he => he))
  · obtain ⟨a, B, sI, pins', σ', H', cls, d, rfl, J', nb, up, sky, na, os, ag, b, exm, yes, no⟩ := xx
    have J : Inv X pins σ' H' sI := J'.ofTry ok
    have sky' : Sky B (X.env :: X.outer) a (Zc cls d) X.env.locals s'.heap := by rw [← hs]; exact sky
    show wpAny (model X.prog X.w) X.A (noteFrame (.ref a) X.env) _ _ _
    refine Sky.land Zc.steady frames hf sky' fun h3 fl3 up3 => ?_
    have J3 : Inv X pins σ' H' { s' with heap := h3 } := J.landed nb fl3.1 (up.trans up3) os ag
    obtain ⟨oe3, vs3, he3, hz3, hd3⟩ := fl3.there
    have out : ∀ {h : Heap} {o : Obj} {vs : Array Value}, h.FunFrames B (X.env :: X.outer) → h.get? a = some o → o.data = .fields vs → a ∉ frs (X.env :: X.outer) := fun {h o vs} ff e dd hm => by
      obtain ⟨_, o', e', hnf⟩ := ff.mem hm
      rw [e] at e'
      cases e'
      exact hnf _ dd
    have nfr := out fl3.2.2.1 he3 hd3
    have nL : a ≠ X.env.locals := fun z => nfr (List.mem_filterMap.mpr ⟨X.env, List.mem_cons_self, by rw [hf, z]⟩)
    have nF : a ∉ X.fs := fun hm => by
      obtain ⟨e, he, q⟩ := List.mem_filterMap.mp hm
      exact nfr (List.mem_filterMap.mpr ⟨e, List.mem_cons_of_mem _ he, q⟩)
    have S3 := J3.suite he3 hd3 na nL nF
    refine wpAny_handleBy_cons (codeAny_handlers_test ?_) (by intro q; cases q)
    refine tell a oe3 (X.pn ++ pins) σ' H' { s' with heap := h3 } _ _ S3 fun spec h2 k2 LM => ?_
    have LT : PySem.W.Looks (model X.prog X.w) h2 (typeOf (.ref a)) cls := fun A Q E s k q => wpAny_typeOf_ref (k _ _ (k2 _ _ he3)) (by rw [hz3.1]; exact q)
    have fl2 := fly_grow fl3 k2
    have up2 := (up.trans up3).trans (slots_grow k2)
    refine (LM cls b LT exm).here ?_
    cases b with
    | true =>
      refine codeAny_handlers_suite_as ?_
      refine HandSPX.lands_againZ fl2 fun h4 fl4 up4 => ?_
      have J4 : Inv X pins σ' H' { s' with heap := h4 } := J.landed nb fl4.1 (up2.trans up4) os ag
      obtain ⟨oe4, vs4, he4, hz4, hd4⟩ := fl4.there
      have S4 := J4.suite he4 hd4 na nL nF
      refine store_ok (X := X.suite a ((a, oe4) :: (X.pn ++ pins))) (v := .ref a) S4 hN hi loc rfl (fun s5 S5 => ?_) (.inr hln)
      refine wpAny_mono ((hsu a oe4 cls d (X.pn ++ pins) hz4 ⟨_, hd4⟩).run [] s5 _ H' _ S5 (yes rfl a na)) (fun f s6 sp => ?_) (fun _ _ z => False.elim z)
      have gone : ∀ {σ6 : L2.St} {H6 : Hp} {Q : Shared → Prop}, Inv (X.suite a ((a, oe4) :: (X.pn ++ pins))) [] σ6 H6 s6 → (∀ s7, Inv X pins (σ6.set i none) H6 s7 → Q s7) →
          wpAny (model X.prog X.w) X.A (do bindName X.env n .none; unbindBehindTheSuite X.env n pos') (fun _ s7 => Q s7) X.xe s6 := fun {σ6 H6 Q} S6 hq => gone_ok (S6.unsuite ok) hN hi hln hq
      cases f with
      | ret u =>
        obtain ⟨v6, σ6, H6, S6, r6, q6⟩ := sp
        exact gone S6 fun s7 J7 => ⟨_, _, _, J7, r6, q6⟩
      | _ =>
        obtain ⟨σ6, H6, S6, q6⟩ := sp
        exact gone S6 fun s7 J7 => ⟨_, _, J7, q6⟩
    | false =>
      show wpAny _ X.A (handleBy (.ref a) X.env []) _ _ _
      refine wpAny_handleBy_nil ?_
      obtain ⟨k1, k2', k3, oe, vs, T, oT, ts', he, hz, hd, h1, hr⟩ := id fl2
      unfold PySem.passOn
      refine wpAny_bind (wpAny_field he hd h1 ?_)
      rw [if_neg (show ¬ ((Value.ref T == Value.none) = true) from by simp)]
      have fin : wpAny (model X.prog X.w) X.A (setFlight (.ref a) X.env.frame) (fun _ s4 => wpAny (model X.prog X.w) X.A (throw (.ref a) : Sem Flow) (SP X pins D) X.xe s4) X.xe { s' with heap := h2 } := by
        rw [hf]
        refine HandSPX.setFlight_upZ fl2 fun h4 hh4 up4 => wpAny_throw (tk _ _ ?_)
        exact ⟨a, B, sI, pins, σ', H', cls, d, rfl, J, nb, up2.trans up4, .inr (.inr (by rw [hs]; exact hh4)), na, os, ag, no rfl⟩
      first
        | exact wpAny_bind (wpAny_pure (wpAny_bind fin))
        | exact wpAny_bind fin
  · cases f with
    | next =>
      obtain ⟨σ', H', J', q⟩ := sp
      exact wpAny_execs_nil ⟨σ', H', J'.ofTry ok, q⟩
    | ret u =>
      obtain ⟨v, σ', H', J', r, q⟩ := sp
      exact ⟨v, σ', H', J'.ofTry ok, r, q⟩
    | _ =>
      obtain ⟨σ', H', J', q⟩ := sp
      exact ⟨σ', H', J'.ofTry ok, q⟩
end
end PfT

namespace PfT
open PySem PySem.Spec PyProof.Rows L2 L2H HandSPX
section
variable {X : Cx} {x1 x2 x3 : Str} {c1 c2 c3 : Value} {p1 p2 p3 pos : Pos} {k0 : Nat}
theorem name_in {a : Addr} {oe : Obj} {pn : List (Addr × Obj)} {σ : L2.St} {H : Hp} {s : Shared} {x : Str} {c : Value} {p : Pos} {Q : Value → Shared → Prop} {E : Value → Shared → Prop} (S : Inv (X.suite a ((a, oe) :: pn)) [] σ H s) (hc : Names X x c) (q : Q c s) :
    wpAny (model X.prog X.w) (X.A.mark (some (.ref a))) (eval (.Name x p) X.env) Q E s := by
  obtain ⟨hg, hdbg, hm | ⟨hm, hv, hnn⟩⟩ := hc
  · exact ld_glob (X := X.suite a ((a, oe) :: pn)) S hg hm q hdbg
  · exact ld_blt (X := X.suite a ((a, oe) :: pn)) S hg hm hv q hnn hdbg
theorem tells3 (h1 : Names X x1 c1) (h2 : Names X x2 c2) (h3 : Names X x3 c3) : Tells X (.Tuple [.Name x1 p1, .Name x2 p2, .Name x3 p3] k0 pos) [c1, c2, c3] := fun a oe pn σ H s Q E S q => by
  refine wpAny_Tuple_spliced ?_
  show wpAny _ _ (spliced ((false, eval (.Name x1 p1) X.env) :: (false, eval (.Name x2 p2) X.env) :: (false, eval (.Name x3 p3) X.env) :: [])) _ _ s
  refine Calls.spliced_cons (name_in S h1 (Calls.spliced_cons (name_in S h2 (Calls.spliced_cons (name_in S h3 (Calls.spliced_nil ⟨by show 3 ≤ sizeLine; rw [sizeLine_eq]; omega, ?_⟩))))))
  have k : ∀ b o, s.heap.get? b = some o → (s.heap.push { cls := .type "tuple", data := .seq [c1, c2, c3].toArray }).get? b = some o := fun b o e => Heap.get?_push_of_some _ e
  refine q (.ref s.heap.objs.size) _ k fun cls b LT ex => ?_
  exact PySem.W.exm_tup3 (fun b o z => k _ _ (S.kIn b o z)) LT (Heap.get?_push_size _ rfl) ex
end
end PfT

/-! a def that is handed the error that is in hand: its promise speaks of this error -/
namespace PfT
open PySem PySem.Spec PyProof.Rows L2 L2H HandSPX
structure FnE (P : Program) (w : World) (K : PySem.W.Frag) (mg : Str → Option Value) (base : Heap) (CX : CXT) (k : Nat) (f : Addr) (fd : FuncData) (ps : List Str) (p : Addr × Obj) (sp : Sp) : Prop where
  len : ∀ vs H Q E, sp vs H Q E → vs.length = ps.length
  run : ∀ (A : Around) (outer : List Env) (s : Shared) (H : Hp) (args : Args) (us : List Value) (vs : List V) (Q : VK) (E : XK), RoomH k A → PinOk outer H s p → Env0 P w K mg base A outer s H → BindsTo s fd args (ps.zip us) → Vals vs us → sp vs H Q E →
    codeAny (model P w) A (.call (.ref f) args) (CR CX outer P w H s Q E) s
section
variable {P : Program} {w : World} {K : PySem.W.Frag} {mg : Str → Option Value} {base : Heap} {CX : CXT} {k : Nat} {f : Addr} {x qual : Str} {st : Stmt} {fd : FuncData} {N ps : List Str} {sp : Sp} {p : Addr × Obj}
theorem fnE_of (F : Fun K x qual st f fd) (S : FnScope N ps (defScope st)) (len : ∀ vs H Q E, sp vs H Q E → vs.length = ps.length)
    (hb : ∀ (cdv : Value) (A : Around) (outer : List Env) (s : Shared) (H : Hp) (vs : List V) (Q : VK) (E : XK), RoomH k (A.deeper (envOfC qual (defScope st) s.heap.objs.size f cdv)) → sp vs H Q E →
      ∃ t, PSs (cxH CX P w K mg base N qual (defScope st) f cdv A outer s H E p) (defBody st) t ∧ t { nx := fun _ H' => Q .non H', rt := Q } (L2.start N vs) H) :
    FnE P w K mg base CX (k + 1) f fd ps p sp := by
  obtain ⟨oc, od, kV, doc, pm, an, cdv, ct, osl, rfl, lk, hcd⟩ := F.ex
  refine ⟨len, fun A outer s H args us vs Q E hr hpin e0 hbd r hsp => ?_⟩
  have hl := len _ _ _ _ hsp
  have inK : K.In s.heap := e0.mod.kin.keeps fun b o e => (e0.bs b o e).1
  have lim : s.heap.NoLimit := e0.mod.nolimit.keeps fun b o e => (e0.bs b o e).1
  have kinds : ∀ y ∈ ps.zip us, (defScope st).names.lookup y.1 = some .local ∨ ((defScope st).names.lookup y.1 = some .cell ∧ ((cellsFrom (s.heap.objs.size + 1) (defScope st).names []).lookup y.1).isSome = true) := fun ⟨n, v⟩ hy =>
    (S.par n (List.of_mem_zip hy).1).imp id fun q => ⟨q, PySem.W.cellsFrom_some _ _ _ (.inl q)⟩
  refine codeAny_call_function hr.depth (inK _ _ lk) rfl S.co S.gen rfl (PySem.W.codeRec_of inK hcd) (hbd _ _ _ _ (wpAny_newFunctionEnv_cells S.kind kinds fun env he s1 z => ?_))
  subst he
  refine ⟨lim.keeps z.toInCall.keep, codeAny_func ?_⟩
  obtain ⟨t, ht, hq⟩ := hb cdv A outer s H vs Q E (hr.deeper _) hsp
  refine wpAny_mono (ht.run [] s1 (L2.start N vs) H _ (inv_startH S hpin e0 hl r z) hq) (fun fl s' hs => ?_) fun e s' hs => hs
  cases fl with
  | ret u =>
    obtain ⟨v, σ', H', J, rv, q⟩ := hs
    exact ⟨v, H', J.os, J.bare, J.base, J.hok, rv, q⟩
  | next =>
    obtain ⟨σ', H', J, q⟩ := hs
    exact ⟨.non, H', J.os, J.bare, J.base, J.hok, rfl, q⟩
  | brk => exact hs.elim fun _ h => h.elim fun _ h => h.2.elim
  | cont => exact hs.elim fun _ h => h.elim fun _ h => h.2.elim
end
section
variable {X : Cx} {CX : CXT} {k : Nat} {f C d a : Addr} {fd : FuncData} {ps : List Str} {sp : Sp} {E : XK} {x : Str} {q pos : Pos} {e : Expr} {es : List Expr} {t : TA} {te : TE} {oe : Obj} {n : Str}
/-- a call of such a def within the suite -/
theorem pe_callE (F : FnE X.prog X.w X.K X.mg X.base CX k f fd ps (a, oe) sp) (hr : RoomH k X.A) (hp : (a, oe) ∈ X.pn) (hg : Gl X x) (hm : X.mg x = some (.ref f)) (hk : PySem.W.keepIn X.K (.ref f) = true) (hb : Binds X.K fd ps []) (hx : Passes CX X E)
    (ha : PA X (e :: es) t) (hdb : (x == ("__debug__" : Str)) = false := by decide) (he : starEach (e :: es) X.env = (false, eval e X.env) :: starEach es X.env := by rfl) (hpl : (backTo pos (starEach es X.env)).any (·.1) = false := by rfl) :
    PE X (.Call (.Name x q) (e :: es) [] pos) (tCall sp [] E t) := by
  refine ⟨fun pins s σ H Q I h => wpAny_Call_Name_kw (ld_glob I hg hm ?_ hdb)⟩
  refine PySem.W.callWith_K (h₀ := X.base) I.ok.mod.kin hk (thn (ha.run pos pins s σ H _ I h) fun us s1 ⟨vs, H1, I1, r, z⟩ => ⟨I1.kIn, ?_⟩) he hpl
  have z : sp vs H1 Q E := by
    have z' : sp (vs ++ []) H1 Q E := z
    rw [List.append_nil] at z'
    exact z'
  have hl : us.length = ps.length := by rw [← r.length]; exact F.len _ _ _ _ z
  have b := hb s1 us I1.kIn (by rw [List.append_nil]; exact hl)
  rw [List.append_nil] at b
  have P1 := I1.pin (a, oe) (List.mem_append_left _ hp)
  have pin : PinOk X.stack H1 s1 (a, oe) := ⟨P1.1, P1.2.1, fun m => (List.mem_cons.mp (I1.stkSub a m)).elim P1.2.2.1 P1.2.2.2.1, P1.2.2.2.2⟩
  refine wpAny_call (codeAny_mono (F.run X.A X.stack s1 H1 ⟨us, []⟩ us vs Q E hr pin I1.env0 b r z) fun r s' hq => ?_)
  cases r with
  | error e => exact hx pins σ H1 s1 e s' I1 hq
  | ok fl =>
    cases fl with
    | ret u => exact I1.after hq
    | next => exact hq.elim
    | brk => exact hq.elim
    | cont => exact hq.elim
/-- e.f, e an error that is pinned -/
def tXfp (a d : Addr) (f : Str) (te : TE) : TE := fun σ H Q => te σ H fun x H1 => x = .ref a ∧ ∃ (fs : List (Str × V)) (v : V), H1 d = some (.xd fs) ∧ fs.lookup f = some v ∧ Q v H1
theorem pe_xfp (hp : (a, oe) ∈ X.pn) (hz : Zc (.ref C) (some d) oe) (hf : ∃ vs, oe.data = .fields vs) (T : ExcC X.K C) (no : PySem.W.findIn X.K (.ref C) n = some none) (he : PE X e te) (hb : attributeBase e n X.env (eval e X.env) = eval e X.env := by rfl) : PE X (.Attribute e n pos) (tXfp a d n te) := by
  refine ⟨fun pins s σ H Q I h => attr_of hb (thn (he.run pins s σ H _ I h) fun u s1 hh => ?_)⟩
  obtain ⟨x, H1, I1, rx, ex, fs, v, ea, l, z⟩ := hh
  subst ex
  obtain rfl : u = Value.ref a := rx
  obtain ⟨ha, _⟩ := I1.pin (a, oe) (List.mem_append_left _ hp)
  obtain ⟨vs, hd⟩ := hf
  have hx : ObjOk X.prog X.w H1 s1.heap d (.xd fs) := I1.hok d _ ea
  obtain ⟨mA, hns, hr⟩ := hx
  obtain ⟨od, ho, hl⟩ := lookIn_ns hns
  obtain ⟨u, hu, ru⟩ := RelO.some_of (v := v) (o := mA n) (by rw [← l]; exact hr n)
  have J : PySem.W.InstAt s1.heap a oe C (some od) := ⟨ha, hz.1, by unfold PySem.W.notCls; rw [hd] <;> rfl, by rw [hz.2]; exact ho⟩
  exact HandSPX.exc_get I1.kIn J T.hg T.hk T.hs (PySem.W.findObj_own T.hd no rfl (by rw [hl, hu])) (handed_of ru) ⟨v, H1, I1.tok _, ru, z⟩
end
end PfT

/-! cells told as things that are read (frozen), and told no more -/
namespace PfL
open PySem PySem.Spec PyProof.Rows L2 LamX HandSPX
def FzO (o : Obj) : HO := .frz o (.ext fun _ => True)
abbrev Zm := Addr → Option Obj
def fz (Z : Zm) (H : Hp) : Hp := fun b => match Z b with | some o => some (FzO o) | none => H b
def uz (Z : Zm) (H : Hp) : Hp := fun b => match Z b with | some _ => none | none => H b
section
variable {P : Program} {w : World} {H H' : Hp} {h h' B : Heap} {Z : Zm} {fs : List Addr}
theorem fz_in {b : Addr} {o : Obj} (e : Z b = some o) : fz Z H b = some (FzO o) := by unfold fz; rw [e]
theorem fz_out {b : Addr} (e : Z b = none) : fz Z H b = H b := by unfold fz; rw [e]
theorem uz_in {b : Addr} {o : Obj} (e : Z b = some o) : uz Z H b = none := by unfold uz; rw [e]
theorem uz_out {b : Addr} (e : Z b = none) : uz Z H b = H b := by unfold uz; rw [e]
theorem fzO_ok {b : Addr} {o : Obj} (e : h.get? b = some o) : ObjOk P w H h b (FzO o) := ⟨e, trivial, ⟨o, e⟩, fun _ _ _ _ => trivial⟩
/-- Z's things are not tracked, and lie so -/
def Out (Z : Zm) (H : Hp) (h : Heap) : Prop := ∀ b o, Z b = some o → H b = none ∧ h.get? b = some o
/-- Z's things are frozen -/
def In (Z : Zm) (H : Hp) : Prop := ∀ b o, Z b = some o → H b = some (FzO o)
theorem In.fz : In Z (fz Z H) := fun b o e => fz_in e
theorem z_none (z : In Z H) {b : Addr} (e : H b = none) : Z b = none := by
  cases q : Z b with
  | none => rfl
  | some o => rw [z b o q] at e; cases e
theorem z_not (z : Out Z H h) {b : Addr} {u : HO} (e : H b = some u) : Z b = none := by
  cases q : Z b with
  | none => rfl
  | some o => rw [(z b o q).1] at e; cases e
theorem hok_fz (x : HOk P w H h) (z : Out Z H h) : HOk P w (fz Z H) h := fun b u e => by
  cases q : Z b with
  | some o =>
    rw [fz_in q] at e
    cases e
    exact fzO_ok (z b o q).2
  | none =>
    rw [fz_out q] at e
    exact (x b u e).stay (fun _ _ _ r => r) (fun c r => by rw [fz_out (z_not z r)]; exact r) fun c xs r => by rw [fz_out (z_not z r)]; exact r
theorem hok_uz (x : HOk P w H h) (z : In Z H) : HOk P w (uz Z H) h := fun b u e => by
  cases q : Z b with
  | some o =>
    rw [uz_in q] at e
    cases e
  | none =>
    rw [uz_out q] at e
    have nz : ∀ c v, H c = some v → (∀ o, v ≠ FzO o) → Z c = none := fun c v r n => by
      cases s : Z c with
      | none => rfl
      | some o =>
        rw [z c o s] at r
        exact absurd (Option.some.inj r).symm (n o)
    exact (x b u e).stay (fun _ _ _ r => r) (fun c r => by rw [uz_out (nz c _ r fun o z => by cases z)]; exact r) fun c xs r => by rw [uz_out (nz c _ r fun o z => by cases z)]; exact r
theorem out_uz (x : HOk P w H h) (z : In Z H) : Out Z (uz Z H) h := fun b o e => ⟨uz_in e, (x b _ (z b o e)).1⟩
/-- a run from the frozen heap, told of the thawed ones -/
theorem un_thaw (z : Out Z H h) (u : Un fs [] (fz Z H) H' h h') (x : HOk P w H' h') : In Z H' ∧ Un fs [] H (uz Z H') h h' := by
  have zi : In Z H' := fun b o e => u.frzs b o _ (fz_in e)
  refine ⟨zi, ⟨fun b o e n nf nx => ?_, fun b o e n f nx => ?_, fun b o e n nx => ?_, u.there, fun b xs e => ?_, fun b o v e => ?_, fun b ps e => ?_⟩⟩
  · cases q : Z b with
    | some o' =>
      have := (z b o' q).2
      rw [e] at this
      cases this
      exact (x b _ (zi b _ q)).1
    | none => exact u.keep b o e (by rw [fz_out q]; exact n) nf nx
  · cases q : Z b with
    | some o' =>
      have := (z b o' q).2
      rw [e] at this
      cases this
      exact ⟨o.slots, (x b _ (zi b _ q)).1⟩
    | none => exact u.slot b o e (by rw [fz_out q]; exact n) f nx
  · cases q : Z b with
    | some o' => exact uz_in q
    | none =>
      rw [uz_out q]
      exact u.free b o e (by rw [fz_out q]; exact n) nx
  · have q := z_not z e
    rw [uz_out q]
    exact u.tups b xs (by rw [fz_out q]; exact e)
  · have q := z_not z e
    rw [uz_out q]
    exact u.frzs b o v (by rw [fz_out q]; exact e)
  · have q := z_not z e
    rw [uz_out q]
    exact u.tbls b ps (by rw [fz_out q]; exact e)
/-- a run from the thawed heap, told of the frozen ones -/
theorem un_freeze (z : In Z H) (x0 : HOk P w H h) (nf : ∀ b ∈ fs, H b = none) (u : Un fs [] (uz Z H) H' h h') (x : HOk P w H' h') : Out Z H' h' ∧ Un fs [] H (fz Z H') h h' := by
  have zo : Out Z H' h' := fun b o e => by
    have g := (x0 b _ (z b o e)).1
    refine ⟨u.free b o g (uz_in e) (by simp), u.keep b o g (uz_in e) (fun f => ?_) (by simp)⟩
    have := nf b f
    rw [z b o e] at this
    cases this
  refine ⟨zo, ⟨fun b o e n f nx => ?_, fun b o e n f nx => ?_, fun b o e n nx => ?_, u.there, fun b xs e => ?_, fun b o v e => ?_, fun b ps e => ?_⟩⟩
  · have q := z_none z n
    exact u.keep b o e (by rw [uz_out q]; exact n) f nx
  · have q := z_none z n
    exact u.slot b o e (by rw [uz_out q]; exact n) f nx
  · have q := z_none z n
    rw [fz_out q]
    exact u.free b o e (by rw [uz_out q]; exact n) nx
  · cases q : Z b with
    | some o =>
      rw [z b o q] at e
      cases e
    | none =>
      rw [fz_out q]
      exact u.tups b xs (by rw [uz_out q]; exact e)
  · cases q : Z b with
    | some o' =>
      rw [z b o' q] at e
      rw [fz_in q]
      exact e
    | none =>
      rw [fz_out q]
      exact u.frzs b o v (by rw [uz_out q]; exact e)
  · cases q : Z b with
    | some o =>
      rw [z b o q] at e
      cases e
    | none =>
      rw [fz_out q]
      exact u.tbls b ps (by rw [uz_out q]; exact e)
/-- the same of an exception's ground -/
theorem ub_freeze (z : In Z H) (x0 : HOk P w H h) (nf : ∀ b ∈ fs, H b = none) (u : UB fs (uz Z H) H' h B h') : Out Z H' B ∧ UB fs H (fz Z H') h B h' := by
  have zo : Out Z H' B := fun b o e => by
    have g := (x0 b _ (z b o e)).1
    refine ⟨u.free b o g (uz_in e), u.keep b o g (uz_in e) (fun f => ?_)⟩
    have := nf b f
    rw [z b o e] at this
    cases this
  refine ⟨zo, ⟨fun b o e n f => ?_, u.slot, fun b o e n => ?_, u.there, fun b xs e => ?_, fun b o v e => ?_, fun b ps e => ?_⟩⟩
  · have q := z_none z n
    exact u.keep b o e (by rw [uz_out q]; exact n) f
  · have q := z_none z n
    rw [fz_out q]
    exact u.free b o e (by rw [uz_out q]; exact n)
  · cases q : Z b with
    | some o =>
      rw [z b o q] at e
      cases e
    | none =>
      rw [fz_out q]
      exact u.tups b xs (by rw [uz_out q]; exact e)
  · cases q : Z b with
    | some o' =>
      rw [z b o' q] at e
      rw [fz_in q]
      exact e
    | none =>
      rw [fz_out q]
      exact u.frzs b o v (by rw [uz_out q]; exact e)
  · cases q : Z b with
    | some o =>
      rw [z b o q] at e
      cases e
    | none =>
      rw [fz_out q]
      exact u.tbls b ps (by rw [uz_out q]; exact e)
end
/-! ### calls from a frozen heap, to a frozen heap -/
section
variable {P : Program} {w : World} {K : PySem.W.Frag} {mg : Str → Option Value} {base : Heap} {A : Around} {outer : List Env} {s s' : Shared} {H : Hp} {Z : Zm} {Q : VK} {E : XK}
theorem env0_fz (e : Env0 P w K mg base A outer s H) (z : Out Z H s.heap) (nb : ∀ b o, base.get? b = some o → Z b = none) (nf : ∀ b ∈ frs outer, Z b = none) : Env0 P w K mg base A outer s (fz Z H) :=
  ⟨e.frames, e.mod, fun b o q => ⟨(e.bs b o q).1, by rw [fz_out (nb b o q)]; exact (e.bs b o q).2⟩, e.bsz, e.funs, fun b q => by rw [fz_out (nf b q)]; exact e.frf b q, hok_fz e.hok z, e.bare⟩
theorem env0_uz (e : Env0 P w K mg base A outer s H) (z : In Z H) : Env0 P w K mg base A outer s (uz Z H) :=
  ⟨e.frames, e.mod, fun b o q => ⟨(e.bs b o q).1, by rw [uz_out (z_none z (e.bs b o q).2)]; exact (e.bs b o q).2⟩, e.bsz, e.funs, fun b q => by rw [uz_out (z_none z (e.frf b q))]; exact e.frf b q, hok_uz e.hok z, e.bare⟩
theorem ce_thaw {u : Value} (z : Out Z H s.heap) (c : CE outer P w (fz Z H) s (fun v H' => In Z H' → Q v (uz Z H')) u s') : CE outer P w H s Q u s' := by
  obtain ⟨v, H', os, bare, un, hok, r, q⟩ := c
  obtain ⟨zi, un'⟩ := un_thaw z un hok
  exact ⟨v, uz Z H', os, bare, un', hok_uz hok zi, r, q zi⟩
theorem ce_freeze {u : Value} (e0 : Env0 P w K mg base A outer s H) (z : In Z H) (c : CE outer P w (uz Z H) s (fun v H' => (∀ b o, Z b = some o → H' b = none) → Q v (fz Z H')) u s') : CE outer P w H s Q u s' := by
  obtain ⟨v, H', os, bare, un, hok, r, q⟩ := c
  obtain ⟨zo, un'⟩ := un_freeze z e0.hok e0.frf un hok
  exact ⟨v, fz Z H', os, bare, un', hok_fz hok zo, r, q fun b o e => (zo b o e).1⟩
theorem cx_freeze {u : Value} (e0 : Env0 P w K mg base A outer s H) (z : In Z H) (c : L2.CX P w outer (uz Z H) s (fun cls d H' => (∀ b o, Z b = some o → H' b = none) → E cls d (fz Z H')) u s') : L2.CX P w outer H s E u s' := by
  obtain ⟨a, B, H', cls, d, rfl, fl, hok, ub, na, os, bare, q⟩ := c
  obtain ⟨zo, ub'⟩ := ub_freeze z e0.hok e0.frf ub
  have nz : Z a = none := by
    cases qz : Z a with
    | none => rfl
    | some o =>
      have g := (zo a o qz).2
      rw [fl.2.1] at g
      cases g
  refine ⟨a, B, fz Z H', cls, d, rfl, fl, hok_fz hok zo, ub', by rw [fz_out nz]; exact na, os, bare, q fun b o e => (zo b o e).1⟩
end
end PfL

/-! lambdas as values: made without parameters, or with one that has a written number -/
namespace PfL
open PySem PySem.Spec PyProof.Rows L2 LamX HandSPX
structure LF where
  qual : Str
  params : Arguments
  body : Expr
  scope : Scope
  cl : List (Str × Addr)
  c : Addr
  dV : Value
abbrev LF.fd (F : LF) (doc pm ctv : Value) : FuncData := PySem.W.kdv_fn "<lambda>" F.qual F.params (.expr F.body) F.scope F.cl F.dV doc pm (.ref F.c) ctv
abbrev LF.obj (F : LF) (doc pm ctv : Value) : Obj := { cls := .type "function", data := .func (F.fd doc pm ctv) }
def LamO (f : Addr) (F : LF) : HO := .ext fun h => ∃ doc pm ctv : Value, h.get? f = some (F.obj doc pm ctv)
/-- no default, or one that is told -/
def DvOk (dV : Value) (H : Hp) : Prop := dV = .none ∨ ∃ (t : Addr) (v : V), dV = .ref t ∧ H t = some (.tup [v])
/-- all that a lambda's function needs stands in H -/
structure Rdy (f : Addr) (F : LF) (H : Hp) : Prop where
  fn : H f = some (LamO f F)
  cd : H F.c = some (CodeO F.c F.qual)
  dv : DvOk F.dV H
theorem DvOk.same {dV : Value} {H H' : Hp} (d : DvOk dV H) (e : ExtN H H') : DvOk dV H' := by
  rcases d with d | ⟨t, v, d, h⟩
  · exact .inl d
  · exact .inr ⟨t, v, d, e _ _ h fun ps z => by cases z⟩
section
variable {X : Cx} {pins : List (Addr × Obj)} {σ : L2.St} {H : Hp} {s : Shared} {E : Value → Shared → Prop} {Q : Value → Shared → Prop}
/-- the function object is laid -/
theorem inv_lam {F : LF} {t' : Nat} {doc pm ctv : Value} (I : Inv X pins σ H s) :
    Inv X pins σ (upd H s.heap.objs.size (LamO s.heap.objs.size F)) { s with heap := s.heap.push (F.obj doc pm ctv), toks := t' } := by
  refine I.laid (fun b u z => Heap.get?_push_of_some _ z) (Nat.le_refl _) ?_
  have z : (s.heap.push (F.obj doc pm ctv)).get? s.heap.objs.size = some (F.obj doc pm ctv) := Heap.get?_push_size _ rfl
  refine ⟨⟨doc, pm, ctv, z⟩, ⟨_, z⟩, fun g1 g2 q st => ?_⟩
  obtain ⟨x1, x2, x3, q⟩ := q
  exact ⟨x1, x2, x3, st _ q⟩
/-- all but the table at P stays -/
def ExtP (P : Addr) (H H' : Hp) : Prop := ∀ b o, b ≠ P → H b = some o → H' b = some o
theorem ExtP.trans {P : Addr} {H H1 H2 : Hp} (a : ExtP P H H1) (b : ExtP P H1 H2) : ExtP P H H2 := fun c o n h => b c o n (a c o n h)
theorem extP_new {P : Addr} {H : Hp} {a : Addr} {o : HO} (n : H a = none) : ExtP P H (upd H a o) := fun b u _ z => by
  rw [upd_ne (ne_of_none z n)]
  exact z
theorem extN_new {H : Hp} {a : Addr} {o : HO} (n : H a = none) : ExtN H (upd H a o) := ExtN.of fun b u z => by
  rw [upd_ne (ne_of_none z n)]
  exact z
theorem none_new {H : Hp} {a b : Addr} {o : HO} (z : upd H a o b = none) : H b = none := by
  unfold upd at z
  split at z
  · cases z
  · exact z
/-- the function of a lambda whose default stands made -/
theorem lam_tail {T : List (Addr × Str)} {c P : Addr} {q : Str} {params : Arguments} {body : Expr} {scope : Scope} {pos : Pos} {l : Nat} {dV : Value} (I : Inv X pins σ H s) (TB : TabB X.base X.mg c P) (hcode : X.env.code = .ref c) (hm : (P, q) ∈ T) (hu : ∀ p ∈ T, p.1 = P → p.2 = q) (hT : Tabs T H)
    (hfree : ∀ y ∈ scope.names, y.2 = .free → ∃ c, X.env.cells.lookup y.1 = some c) (dk : DvOk dV H)
    (go : ∀ (f c' : Addr) (H1 : Hp) (s' : Shared), Inv X pins σ H1 s' → ExtN H H1 → ExtP P H H1 → (∀ b, H1 b = none → H b = none) → Tabs T H1 → H f = none → Rdy f ⟨q, params, body, scope, cloFrom X.env.cells scope.names [], c', dV⟩ H1 → Q (.ref f) s') :
    wpAny (model X.prog X.w) X.A (makeTail "<lambda>" q params (.expr body) scope X.env dV .none none pos l) Q E s := by
  obtain ⟨ps, hP, ht, ha⟩ := hT _ hm
  have bP := TB.bm.keeps I.bk
  have gP : s.heap.get? P = some (PySem.W.tabObj ps) := I.hok P _ hP
  cases hc : codeAmong pos ps.toList with
  | none =>
    refine PySem.W.kdv_makeTail (closure_ok hfree) I.ok.glob (I.mod.glob.keeps I.bk) hcode (TB.code.keeps I.bk) gP ht hc TB.gP bP fun c' ctv doc h' tk hx hge hlt hrec htb => ?_
    obtain ⟨c2, oc, vs, t, e2, hoc, hd, hv⟩ := hrec
    cases e2
    have nC : H c' = none := I.hok.fresh hge
    have I1 := inv_table (t' := tk) (more := #[rawInt pos.line, rawInt pos.col, .ref c']) (h' := h') I hP hx htb hge ⟨oc, vs, t, hoc, hd, hv⟩
    have sz : s.heap.objs.size ≤ h'.objs.size := Nat.le_trans hge (Nat.le_of_lt hlt)
    have x1 : ExtN H (upd (upd H P (.tbl (ps ++ #[rawInt pos.line, rawInt pos.col, .ref c']))) c' (CodeO c' q)) := fun b o z n => by
      rw [upd_ne (ne_of_none z nC), upd_ne (fun y => n ps (Option.some.inj (z.symm.trans (by rw [y]; exact hP))))]
      exact z
    have nF := I1.hok.fresh (Nat.le_refl _)
    have I2 := inv_lam (F := ⟨q, params, body, scope, cloFrom X.env.cells scope.names [], c', dV⟩) (t' := tk) (doc := doc) (pm := (X.mg "__name__").getD .none) (ctv := ctv) I1
    have x2 : ExtN H _ := x1.trans (extN_new (o := LamO h'.objs.size ⟨q, params, body, scope, cloFrom X.env.cells scope.names [], c', dV⟩) nF)
    have eL : (ps ++ #[rawInt pos.line, rawInt pos.col, .ref c']).toList = ps.toList ++ [rawInt pos.line, rawInt pos.col, .ref c'] := by simp
    have nc : c' ≠ h'.objs.size := Nat.ne_of_lt hlt
    refine go h'.objs.size c' _ _ I2 x2 (fun b o n z => by rw [upd_ne (ne_of_none z (I.hok.fresh sz)), upd_ne (ne_of_none z nC), upd_ne n]; exact z) (fun b z => ?_) (fun p hp => ?_) (I.hok.fresh sz) ⟨upd_same, by rw [upd_ne nc]; exact upd_same, dk.same x2⟩
    · exact none_new (none_new (none_new z))
    · have keepT : ∀ {cv : Value}, (∃ c, cv = .ref c ∧ H c = some (CodeO c p.2)) → ∃ c, cv = .ref c ∧ upd (upd (upd H P (.tbl (ps ++ #[rawInt pos.line, rawInt pos.col, .ref c']))) c' (CodeO c' q)) h'.objs.size (LamO h'.objs.size ⟨q, params, body, scope, cloFrom X.env.cells scope.names [], c', dV⟩) c = some (CodeO c p.2) := fun ⟨c0, e1, e2⟩ => ⟨c0, e1, x2 _ _ e2 codeO_ne⟩
      by_cases hb : p.1 = P
      · have nP : P ≠ h'.objs.size := Nat.ne_of_lt (Nat.lt_of_lt_of_le (Heap.lt_size gP) sz)
        refine ⟨_, by rw [hb, upd_ne nP, upd_ne (ne_of_none hP nC)]; exact upd_same, by rw [eL]; exact PySem.TriplesOk_snoc _ _ _ _ ht, fun p' cv z => ?_⟩
        rw [eL] at z
        rcases among_app _ ht z with z | z
        · refine keepT ?_
          rw [hu p hp hb]
          exact ha p' cv z
        · refine ⟨c', z, ?_⟩
          rw [upd_ne nc, upd_same, hu p hp hb]
      · obtain ⟨ps', a1, a2, a3⟩ := hT p hp
        have n1 : p.1 ≠ h'.objs.size := Nat.ne_of_lt (Nat.lt_of_lt_of_le (I.hok.lt a1) sz)
        exact ⟨ps', by rw [upd_ne n1, upd_ne (ne_of_none a1 nC), upd_ne hb]; exact a1, a2, fun p' cv z => keepT (a3 p' cv z)⟩
  | some cv =>
    obtain ⟨c', e, hco⟩ := ha pos cv hc
    subst e
    refine PySem.W.kdv_makeTailHit (closure_ok hfree) I.ok.glob (I.mod.glob.keeps I.bk) hcode (TB.code.keeps I.bk) gP ht hc bP fun ctv doc h' tk hx hsz => ?_
    have I1 : Inv X pins σ H { s with heap := h', toks := tk } := I.kept hx
    have nF : H h'.objs.size = none := I.hok.fresh hsz
    have I2 := inv_lam (F := ⟨q, params, body, scope, cloFrom X.env.cells scope.names [], c', dV⟩) (t' := tk) (doc := doc) (pm := (X.mg "__name__").getD .none) (ctv := ctv) I1
    have x2 : ExtN H _ := extN_new (o := LamO h'.objs.size ⟨q, params, body, scope, cloFrom X.env.cells scope.names [], c', dV⟩) nF
    exact go h'.objs.size c' _ _ I2 x2 (extP_new nF) (fun b z => none_new z) (hT.ext fun b u z => by rw [upd_ne (ne_of_none z nF)]; exact z) nF ⟨upd_same, x2 _ _ hco codeO_ne, dk.same x2⟩
/-- lambda: e, lambda x=n: e -/
def LamPar (p : Arguments) : Prop := p.kw_defaults = [] ∧ p.kwonlyargs = [] ∧ (p.defaults = [] ∨ ∃ (n : Int) (j : Nat) (po : Pos), p.defaults = [.Constant (.int n) j po])
theorem lam_eval {T : List (Addr × Str)} {c P : Addr} {params : Arguments} {body : Expr} {scope : Scope} {pos : Pos} (I : Inv X pins σ H s) (TB : TabB X.base X.mg c P) (hcode : X.env.code = .ref c) (hm : (P, X.env.qual ++ "<lambda>") ∈ T) (hu : ∀ p ∈ T, p.1 = P → p.2 = X.env.qual ++ "<lambda>") (hT : Tabs T H)
    (hp : LamPar params) (hfree : ∀ y ∈ scope.names, y.2 = .free → ∃ c, X.env.cells.lookup y.1 = some c)
    (go : ∀ (f c' : Addr) (dV : Value) (H1 : Hp) (s' : Shared), Inv X pins σ H1 s' → ExtN H H1 → ExtP P H H1 → (∀ b, H1 b = none → H b = none) → Tabs T H1 → H f = none → (params.defaults = [] → dV = .none) → (params.defaults ≠ [] → ∃ t v, dV = .ref t ∧ H t = none ∧ H1 t = some (.tup [v])) → Rdy f ⟨X.env.qual ++ "<lambda>", params, body, scope, cloFrom X.env.cells scope.names [], c', dV⟩ H1 → Q (.ref f) s') :
    wpAny (model X.prog X.w) X.A (eval (.Lambda params body scope pos) X.env) Q E s := by
  obtain ⟨k0, k1, hd⟩ := hp
  have fin : ∀ (dv : List Value) (s1 : Shared), wpAny (model X.prog X.w) X.A (makeFunction "<lambda>" (X.env.qual ++ "<lambda>") params (.expr body) scope X.env dv [] [] pos pos.line) Q E s1 → wpAny (model X.prog X.w) X.A (do let kdv ← holding dv (evalAllOpt []); makeFunction "<lambda>" (X.env.qual ++ "<lambda>") params (.expr body) scope X.env dv kdv [] pos pos.line) Q E s1 :=
    fun dv s1 z => wpAny_bind (wpAny_holding (wpAny_pure z))
  rcases hd with hd | ⟨n, j, po, hd⟩
  · rw [arm_eval_Lambda, defaultsOf_eq, k0, hd]
    refine wpAny_bind (evalAll_nil (fin [] s ?_))
    rw [makeFunction_eq]
    simp only [k1, List.zip_nil_right, List.filterMap_nil, List.isEmpty_nil, if_true, pure_bind]
    exact lam_tail I TB hcode hm hu hT hfree (.inl rfl) fun f c' H1 s' I1 x1 p1 n1 T1 nf r => go f c' .none H1 s' I1 x1 p1 n1 T1 nf (fun _ => rfl) (fun z => absurd hd z) r
  · rw [arm_eval_Lambda, defaultsOf_eq, k0, hd]
    refine wpAny_bind (evalAll_cons (thn ((pe_int (X := X) (i := n) (j := j) (pos := po)).run pins s σ H (fun v H1 => v = .int n ∧ H1 = H) I ⟨rfl, rfl⟩) fun u s1 ⟨v, H1, I1, r1, q1⟩ => evalAll_nil (fin [u] s1 ?_)))
    obtain ⟨ev, eH⟩ := q1
    subst ev
    rw [eH] at I1
    rw [makeFunction_eq]
    simp only [k1, List.zip_nil_right, List.filterMap_nil, List.isEmpty_nil, List.isEmpty_cons, Bool.false_eq_true, if_true, if_false, pure_bind]
    refine wpAny_bind (wpAny_newTextTuple ?_)
    have nt : H s1.heap.objs.size = none := I1.hok.fresh (Nat.le_refl _)
    have I2 : Inv X pins σ (upd H s1.heap.objs.size (.tup [V.int n])) { s1 with heap := s1.heap.push { cls := .type "tuple", data := .seq #[u] } } :=
      I1.laid (t' := s1.toks) (fun b o z => Heap.get?_push_of_some _ z) (Nat.le_refl _) ⟨(show 1 ≤ sizeLine by decide), [u], .cons r1 .nil, _, Heap.get?_push_size _ rfl, rfl, _, rfl⟩
    have x2 : ExtN H (upd H s1.heap.objs.size (.tup [V.int n])) := extN_new nt
    have T2 : Tabs T (upd H s1.heap.objs.size (.tup [V.int n])) := hT.ext fun b o z => by rw [upd_ne (ne_of_none z nt)]; exact z
    refine lam_tail I2 TB hcode hm hu T2 hfree (.inr ⟨_, _, rfl, upd_same⟩) fun f c' H1 s' I3 x3 p3 n3 T3 nf r => ?_
    refine go f c' _ H1 s' I3 (x2.trans x3) ((extP_new nt).trans p3) (fun b z => none_new (n3 b z)) T3 (none_new nf) (fun z => ?_) (fun _ => ⟨_, _, rfl, nt, x3 _ _ upd_same fun ps z => by cases z⟩) r
    rw [hd] at z
    cases z
end
end PfL

/-! a lambda called, from wherever: its cells lie frozen -/
namespace PfL
open PySem PySem.Spec PyProof.Rows L2 LamX HandSPX
def par0 : Arguments := { posonlyargs := [], args := [], vararg := none, kwonlyargs := [], kw_defaults := [], kwarg := none, defaults := [] }
def par1 (a : Str) (p po : Pos) (n : Int) (j : Nat) : Arguments := { posonlyargs := [], args := [{ arg := a, annotation := none, pos := p }], vararg := none, kwonlyargs := [], kw_defaults := [], kwarg := none, defaults := [.Constant (.int n) j po] }
theorem binds0 {s : Shared} {q : Str} {body : Expr} {scope : Scope} {cl : List (Str × Addr)} {c : Addr} {doc pm ctv : Value} : BindsTo s ((⟨q, par0, body, scope, cl, c, .none⟩ : LF).fd doc pm ctv) ⟨[], []⟩ [] := BindsTo.of_eq rfl
theorem binds1 {s : Shared} {a q : Str} {p po : Pos} {n : Int} {j : Nat} {body : Expr} {scope : Scope} {cl : List (Str × Addr)} {c t : Addr} {doc pm ctv u : Value} {o : Obj} {m : Nat} (ho : s.heap.get? t = some o) (hs : o.data = .seq #[u] m) :
    BindsTo s ((⟨q, par1 a p po n j, body, scope, cl, c, .ref t⟩ : LF).fd doc pm ctv) ⟨[], []⟩ [(a, u)] :=
  BindsTo.of_defaults rfl ho hs rfl (by simp [par1, pure]; show Sem.pure (List.filterMap (fun n => Option.map (fun x => (n, x)) (List.lookup n [(a, u)])) [a]) = _; simp [List.lookup])
/-- a lambda's words: what they are made of -/
inductive Par : Arguments → List Str → Prop
  | zero : Par par0 []
  | one (a : Str) (p po : Pos) (n : Int) (j : Nat) : Par (par1 a p po n j) [a]
theorem Par.lam {p : Arguments} {as : List Str} (h : Par p as) : LamPar p := by
  cases h with
  | zero => exact ⟨rfl, rfl, .inl rfl⟩
  | one a p po n j => exact ⟨rfl, rfl, .inr ⟨n, j, po, rfl⟩⟩
/-- its names: its own parameter, captured ones, globals -/
structure LSc (N : List Str) (as : List Str) (sc : Scope) : Prop where
  kind : sc.kind = .function
  co : sc.isCoroutine = false
  gen : sc.isGenerator = false
  cell : ∀ y ∈ sc.names, y.2 ≠ .cell
  own : ∀ y ∈ sc.names, y.2 = .local → y.1 ∉ N
  par : ∀ a ∈ as, sc.names.lookup a = some .local
def lscB (N as : List Str) (sc : Scope) : Bool :=
  decide (sc.kind = .function) && !sc.isCoroutine && !sc.isGenerator && sc.names.all (fun y => !decide (y.2 = .cell) && (!decide (y.2 = .local) || !decide (y.1 ∈ N))) && as.all fun a => decide (sc.names.lookup a = some .local)
theorem lsc_by {N as : List Str} {sc : Scope} (h : lscB N as sc = true) : LSc N as sc := by
  unfold lscB at h
  simp only [Bool.and_eq_true, Bool.or_eq_true, Bool.not_eq_true', decide_eq_true_eq, decide_eq_false_iff_not, List.all_eq_true] at h
  obtain ⟨⟨⟨⟨h1, h2⟩, h3⟩, h4⟩, h5⟩ := h
  exact ⟨h1, h2, h3, fun y hy => (h4 y hy).1, fun y hy e => (h4 y hy).2.elim (fun z => absurd e z) id, h5⟩
/-- the frozen cells bear what the maker's names bear -/
structure CFz (N : List Str) (σ : L2.St) (cl : List (Str × Addr)) (Z : Zm) : Prop where
  at_ : ∀ y c, cl.lookup y = some c → ∃ (o : Obj) (u : Option Value), Z c = some o ∧ o.data = .cell u ∧ ∀ (i : Nat) (v : V), N[i]? = some y → σ[i]? = some (some v) → ∃ u', u = some u' ∧ RelV v u'
  inj : ∀ x y c, cl.lookup x = some c → cl.lookup y = some c → x = y
abbrev lamE (F : LF) (L f : Addr) : Env := PySem.W.envX F.qual F.scope L f (.ref F.c) F.cl
def lamX (P : Program) (w : World) (K : PySem.W.Frag) (mg : Str → Option Value) (base : Heap) (N : List Str) (A : Around) (outer : List Env) (s : Shared) (H : Hp) (E : XK) (F : LF) (f : Addr) : Cx where
  prog := P
  w := w
  K := K
  mg := mg
  base := base
  A := A.deeper (lamE F s.heap.objs.size f)
  N := N
  s_0 := s
  H_0 := H
  env := lamE F s.heap.objs.size f
  outer := outer
  stack := lamE F s.heap.objs.size f :: outer
  ex := []
  fn := fun _ => false
  calm := true
  pn := []
  xe := fun e s' => wpAny (model P w) (A.deeper (lamE F s.heap.objs.size f)) (leaving (lamE F s.heap.objs.size f) e) (fun _ s'' => L2.CX P w outer H s E e s'') (fun e' s'' => L2.CX P w outer H s E e' s'') s'
section
variable {P : Program} {w : World} {K : PySem.W.Frag} {mg : Str → Option Value} {base : Heap} {N as : List Str} {A : Around} {outer : List Env} {s : Shared} {H : Hp} {E : XK} {F : LF} {f : Addr} {σ : L2.St} {Z : Zm} {k : Nat} {Q : VK}
theorem lam_start {h₁ : Heap} {tk : Nat} {bs : List (Str × Value)} (L : LSc N as F.scope) (e0 : Env0 P w K mg base A outer s H) (hd : A.handled = none) (zo : Out Z H s.heap) (C : CFz N σ F.cl Z) (hc : ∀ y, F.scope.names.lookup y = some .free → ∃ c, F.cl.lookup y = some c)
    (hl : σ.length = N.length) (hns : h₁.Ns s.heap.objs.size fun y => bs.reverse.lookup y) (kp : ∀ b o, s.heap.get? b = some o → h₁.get? b = some o) :
    Inv (lamX P w K mg base N A outer s H E F f) [] σ H { s with heap := h₁, toks := tk } := by
  have noA : ∀ b : Addr, b ∉ (lamX P w K mg base N A outer s H E F f).ex := fun b z => absurd (show b ∈ ([] : List Addr) from z) (by simp)
  have cellAt : ∀ {y c}, F.cl.lookup y = some c → ∃ (o : Obj) (u : Option Value), H c = none ∧ h₁.get? c = some o ∧ o.data = .cell u ∧ ∀ (i : Nat) (v : V), N[i]? = some y → σ[i]? = some (some v) → ∃ u', u = some u' ∧ RelV v u' := fun {y c} e => by
    obtain ⟨o, u, z, d, r⟩ := C.at_ y c e
    exact ⟨o, u, (zo c o z).1, kp c o (zo c o z).2, d, r⟩
  refine ⟨⟨e0.mod, L.kind, rfl, rfl, Nat.le_refl _, C.inj, fun y hy => ?_, fun y c z _ => ?_, fun _ => hd, Around.frames_deeper e0.frames, .inr ⟨rfl, rfl⟩, fun b z => absurd z (noA b), e0.bs, e0.bsz, fun b _ _ => noA b, fun b z => absurd z (noA b), e0.funs, e0.frf⟩,
    rfl, e0.bare, Un.kept kp, ⟨_, hns, fun i y v e1 e2 e3 => ?_⟩, fun y c e => ?_, e0.hok.fresh (Nat.le_refl _), fun y c e => ?_, fun q hq => absurd (show q ∈ ([] : List (Addr × Obj)) ++ [] from hq) (by simp), e0.hok.kept kp, hl⟩
  · have hy : F.scope.names.lookup y = some .cell ∨ F.scope.names.lookup y = some .free := hy
    rcases hy with hy | hy
    · exact absurd rfl (L.cell _ (PySem.mem_of_lookup hy))
    · exact hc y hy
  · have z : false = true := z
    cases z
  · have e3 : Vis F.scope y := e3
    have hm : y ∈ N := List.mem_of_getElem? e1
    rcases e3 with g | g | g
    · exact absurd hm (L.own _ (PySem.mem_of_lookup g) rfl)
    · exact absurd rfl (L.cell _ (PySem.mem_of_lookup g))
    · obtain ⟨c, hcl⟩ := hc y g
      obtain ⟨o, u, _, ho, d, r⟩ := cellAt hcl
      obtain ⟨u', rfl, rv⟩ := r i v e1 e2
      exact ⟨u', rv, .inr ⟨.inr g, c, hcl, o, ho, d⟩⟩
  · obtain ⟨o, u, _, ho, d, _⟩ := cellAt (show F.cl.lookup y = some c from e)
    exact ⟨u, o, ho, d⟩
  · exact (cellAt (show F.cl.lookup y = some c from e)).choose_spec.choose_spec.1
/-- x(): what the function at f comes to, whoever calls it -/
def tAct (P : Program) (w : World) (K : PySem.W.Frag) (mg : Str → Option Value) (base : Heap) (k : Nat) (f : Addr) (H : Hp) (Q : VK) (E : XK) : Prop :=
  ∀ (A : Around) (outer : List Env) (s : Shared), Room k A → Env0 P w K mg base A outer s H → codeAny (model P w) A (.call (.ref f) ⟨[], []⟩) (CR (L2.CX P w) outer P w H s Q E) s
theorem act_lam {tb : XK → TE} (pr : Par F.params as) (pd : F.params = par0 → F.dV = .none) (pd1 : F.params ≠ par0 → ∃ t v, F.dV = .ref t ∧ H t = some (.tup [v])) (r : Rdy f F H) (zi : In Z H) (L : LSc N as F.scope) (C : CFz N σ F.cl Z) (hc : ∀ y, F.scope.names.lookup y = some .free → ∃ c, F.cl.lookup y = some c) (hl : σ.length = N.length)
    (hbody : ∀ (A : Around) (outer : List Env) (s : Shared) (E' : XK), Room k (A.deeper (lamE F s.heap.objs.size f)) → PE (lamX P w K mg base N A outer s (uz Z H) E' F f) F.body (tb E'))
    (h : tb (fun cls d H' => (∀ b o, Z b = some o → H' b = none) → E cls d (fz Z H')) σ (uz Z H) (fun v H' => (∀ b o, Z b = some o → H' b = none) → Q v (fz Z H'))) :
    tAct P w K mg base (k + 1) f H Q E := fun A outer s hr e0 => by
  obtain ⟨⟨doc, pm, ctv, ho⟩, _, _⟩ := e0.hok f _ r.fn
  obtain ⟨⟨oc, vs, t, hoc, hdc, hvc⟩, _, _⟩ := e0.hok F.c _ r.cd
  have e1 : Env0 P w K mg base A outer s (uz Z H) := env0_uz e0 zi
  have zo : Out Z (uz Z H) s.heap := out_uz e0.hok zi
  have hb : ∃ bs, BindsTo s (F.fd doc pm ctv) ⟨[], []⟩ bs ∧ ∀ y ∈ bs, F.scope.names.lookup y.1 = some .local := by
    obtain ⟨q, params, body, scope, cl, c, dV⟩ := F
    cases pr with
    | zero =>
      obtain rfl : dV = .none := pd rfl
      exact ⟨[], binds0, fun y hy => by cases hy⟩
    | one a p po n j =>
      obtain ⟨t, v, e, ht⟩ := pd1 fun z => by cases z
      have e : dV = .ref t := e
      subst e
      obtain ⟨_, its, rv, o, g1, g2, g3, g4⟩ := e0.hok t _ ht
      obtain ⟨u, hu, _⟩ := rv.one
      subst hu
      exact ⟨[(a, u)], binds1 g1 g4, fun y hy => by
        rw [List.mem_singleton.mp hy]
        exact L.par a (by simp)⟩
  obtain ⟨bs, hbind, hloc⟩ := hb
  have run : codeAny (model P w) A (.call (.ref f) ⟨[], []⟩) (CR (L2.CX P w) outer P w (uz Z H) s (fun v H' => (∀ b o, Z b = some o → H' b = none) → Q v (fz Z H')) (fun cls d H' => (∀ b o, Z b = some o → H' b = none) → E cls d (fz Z H'))) s := by
    refine PySem.W.kla_callFunE hr.depth ho rfl L.co L.gen rfl ⟨F.c, oc, vs, t, rfl, hoc, hdc, hvc⟩ (hbind _ _ _ _ ?_)
    refine wpAny_newFunctionEnv (fun y hy => L.cell y hy) (fun y hy => hloc y hy) (fun h₁ hns hsb => ⟨(e0.mod.nolimit.keeps fun b o q => (e0.bs b o q).1).fresh _ hsb, ?_⟩) L.kind
    show codeAny _ _ (.expr F.body (lamE F s.heap.objs.size f)) _ _
    have kp : ∀ b o, s.heap.get? b = some o → h₁.get? b = some o := fun b o q => hsb.extBut b o (Nat.ne_of_lt (Heap.lt_size q)) (Heap.get?_push_of_some _ q)
    have J : Inv (lamX P w K mg base N A outer s (uz Z H) (fun cls d H' => (∀ b o, Z b = some o → H' b = none) → E cls d (fz Z H')) F f) [] σ (uz Z H) { s with heap := h₁, toks := s.toks + bs.length } := lam_start L e1 hr.hd zo C hc hl hns kp
    refine PySem.W.kla_codeExpr (wpAny_mono ((hbody A outer s _ (hr.deeper _)).run [] _ _ (uz Z H) _ J h) (fun v s' hq => ?_) fun _ _ hq => hq)
    obtain ⟨w', H', J', rv, q⟩ := hq
    exact ⟨w', H', J'.os, J'.bare, J'.base, J'.hok, rv, q⟩
  refine codeAny_mono run fun r s' hq => ?_
  cases r with
  | error e => exact cx_freeze e0 zi hq
  | ok fl =>
    cases fl with
    | ret u => exact ce_freeze e0 zi hq
    | next => exact hq
    | brk => exact hq
    | cont => exact hq
end
end PfL

namespace Pf
open PySem L2 RZ
/-! ### xs.extend(ys) of an own list -/
/-! ### x not in a tuple of ints; enumerate of a tuple -/
end Pf

/-! rules of lambdas: made, asked, handed on while the cells lie frozen -/
namespace PfL
open PySem PySem.Spec PyProof.Rows L2 LamX HandSPX
/-- what the making of a lambda comes to -/
structure MkL (P : Addr) (q : Str) (params : Arguments) (body : Expr) (scope : Scope) (cells : List (Str × Addr)) (H : Hp) (f : Addr) (F : LF) (H1 : Hp) : Prop where
  ext : ExtP P H H1
  tab : TabS H1 P q
  non : ∀ b, H1 b = none → H b = none
  new : H f = none
  rdy : Rdy f F H1
  eq : F = ⟨q, params, body, scope, cloFrom cells scope.names [], F.c, F.dV⟩
  d0 : params.defaults = [] → F.dV = .none
  d1 : params.defaults ≠ [] → ∃ t v, F.dV = .ref t ∧ H t = none ∧ H1 t = some (.tup [v])
def tMkL (P : Addr) (q : Str) (params : Arguments) (body : Expr) (scope : Scope) (cells : List (Str × Addr)) : TE := fun σ H Q => TabS H P q ∧ ∀ f F H1, MkL P q params body scope cells H f F H1 → Q (.ref f) H1
section
variable {X : Cx}
theorem pe_lam {c P : Addr} {params : Arguments} {body : Expr} {scope : Scope} {pos : Pos} (TB : TabB X.base X.mg c P) (hcode : X.env.code = .ref c) (hp : LamPar params) (hfree : X.Ok → ∀ y ∈ scope.names, y.2 = .free → ∃ c, X.env.cells.lookup y.1 = some c) :
    PE X (.Lambda params body scope pos) (tMkL P (X.env.qual ++ "<lambda>") params body scope X.env.cells) := by
  refine ⟨fun pins s σ H Q I h => ?_⟩
  obtain ⟨ht, go⟩ := h
  refine lam_eval (T := [(P, X.env.qual ++ "<lambda>")]) I TB hcode (by simp) (fun p hp _ => by rw [List.mem_singleton.mp hp]) (fun p hp => by rw [List.mem_singleton.mp hp]; exact ht) hp (hfree I.ok) fun f c' dV H1 s' I1 x1 p1 n1 T1 nf e0 e1 r => ?_
  exact ⟨.ref f, H1, I1, rfl, go f _ H1 ⟨p1, T1 (P, _) (by simp), n1, nf, r, rfl, e0, e1⟩⟩
/-- x() -/
def tAsk (P : Program) (w : World) (K : PySem.W.Frag) (mg : Str → Option Value) (base : Heap) (k i : Nat) (E : XK) : TE := fun σ H Q => ∃ f F, σ[i]? = some (some (.ref f)) ∧ Rdy f F H ∧ tAct P w K mg base k f H Q E
theorem pe_ask {k i : Nat} {a : Str} {E : XK} {W : WX} {p1 p2 : Pos} (tk : Takes X W) (hW : ∀ cls d (σ : L2.St) H', σ.length = X.N.length → E cls d H' → W cls d σ H') (hr : Room k X.A) (hN : X.N[i]? = some a) (hv : Vis X.env.scope a) (hd : (a == ("__debug__" : Str)) = false := by decide) (hcd : (a == ("__classdict__" : Str)) = false := by decide) :
    PE X (.Call (.Name a p1) [] [] p2) (tAsk X.prog X.w X.K X.mg X.base k i E) := by
  refine ⟨fun pins s σ H Q I h => ?_⟩
  obtain ⟨f, F, hs, hr', ht⟩ := h
  refine wpAny_Call_Name_kw (thn ((pe_var (pos := p1) (i := i) hN hv hd hcd).run pins s σ H (fun v H1 => v = .ref f ∧ H1 = H) I ⟨.ref f, hs, rfl, rfl⟩) fun u s1 ⟨v, H1, I1, r1, q1⟩ => ?_)
  obtain ⟨ev, eH⟩ := q1
  subst ev
  rw [eH] at I1
  obtain rfl : u = Value.ref f := r1
  obtain ⟨⟨doc, pm, ctv, ho⟩, _, _⟩ := I1.hok f _ hr'.fn
  refine PySem.W.callWith_F0 ⟨_, _, _, _, ho⟩ (wpAny_call (codeAny_mono (ht X.A X.stack s1 hr I1.env0) fun r s' hq => ?_))
  cases r with
  | error e => exact tk e s' (XE.of_call I1 (fun cls d H' z => hW cls d σ H' I1.len z) hq)
  | ok fl =>
    cases fl with
    | ret u => exact I1.after hq
    | next => exact hq.elim
    | brk => exact hq.elim
    | cont => exact hq.elim
/-! ### a call while this frame's cells lie frozen -/
def tFz (N : List Str) (cells : List (Str × Addr)) (sp : Sp) (te : TE) : TE := fun σ H Q => te σ H fun v H1 => ∀ Z : Zm, CFz N σ cells Z → (∀ b o, Z b = some o → H1 b = none) → sp [v] (fz Z H1) (fun u H' => In Z H' → Q u (uz Z H')) (fun _ _ _ => False)
theorem cells_kind : ∀ (names : List (Str × NameKind)) (n : Nat) (acc : List (Str × Addr)) {x : Str} {c : Addr}, (x, c) ∈ cellsFrom n names acc → (x, c) ∈ acc ∨ ((x, NameKind.cell) ∈ names ∧ n ≤ c)
  | [], _, _, _, _, h => .inl h
  | (y, k) :: r, n, acc, x, c, h => by
    unfold cellsFrom at h
    split at h
    · rename_i hk
      have hk : k = .cell := by simpa using hk
      rcases cells_kind r (n + 1) _ h with h | ⟨h1, h2⟩
      · rcases List.mem_cons.mp h with e | h
        · cases e
          exact .inr ⟨hk ▸ List.mem_cons_self, Nat.le_refl _⟩
        · exact .inl h
      · exact .inr ⟨List.mem_cons_of_mem _ h1, Nat.le_of_succ_le h2⟩
    · rcases cells_kind r n acc h with h | ⟨h1, h2⟩
      · exact .inl h
      · exact .inr ⟨List.mem_cons_of_mem _ h1, h2⟩
open Classical in
theorem pe_fzcall {k : Nat} {f : Addr} {fd : FuncData} {a x : Str} {sp : Sp} {e : Expr} {te : TE} {p pos : Pos} (Fn : FnOk X.prog X.w X.K X.mg X.base CX0 k f fd [a] sp) (hr : Room k X.A) (hg : Gl X x) (hm : X.mg x = some (.ref f)) (hk : PySem.W.keepIn X.K (.ref f) = true) (hb : Binds X.K fd [a] [])
    (own : ∀ y c, X.env.cells.lookup y = some c → X.fn y = true) (knd : ∀ y c, X.env.cells.lookup y = some c → X.env.scope.names.lookup y = some .cell) (hst : X.stack = X.env :: X.outer) (hfr : X.env.frame = some X.env.locals) (he : PE X e te) (hdb : (x == ("__debug__" : Str)) = false := by decide)
    (hse : starEach [e] X.env = (false, eval e X.env) :: starEach [] X.env := by rfl) (hpl : (backTo pos (starEach ([] : List Expr) X.env)).any (·.1) = false := by rfl) :
    PE X (.Call (.Name x p) [e] [] pos) (tFz X.N X.env.cells sp te) := by
  refine ⟨fun pins s σ H Q I h => wpAny_Call_Name_kw (ld_glob I hg hm ?_ hdb)⟩
  refine PySem.W.callWith_K (h₀ := X.base) I.ok.mod.kin hk (thn ((pa_cons he pa_nil hse).run pos pins s σ H (fun vs H1 => ∀ Z : Zm, CFz X.N σ X.env.cells Z → (∀ b o, Z b = some o → H1 b = none) → sp vs (fz Z H1) (fun u H' => In Z H' → Q u (uz Z H')) (fun _ _ _ => False)) I h) fun us s1 ⟨vs, H1, I1, r, z⟩ => ⟨I1.kIn, ?_⟩) hse hpl
  let Z : Zm := fun b => if ∃ y, X.env.cells.lookup y = some b then s1.heap.get? b else none
  have Zin : ∀ {y b}, X.env.cells.lookup y = some b → Z b = s1.heap.get? b := fun {y b} q => if_pos ⟨y, q⟩
  have Zof : ∀ {b o}, Z b = some o → ∃ y, X.env.cells.lookup y = some b := fun {b o} q => by
    by_cases hy : ∃ y, X.env.cells.lookup y = some b
    · exact hy
    · rw [show Z b = none from if_neg hy] at q
      cases q
  have zo : Out Z H1 s1.heap := fun b o q => by
    obtain ⟨y, hy⟩ := Zof q
    exact ⟨I1.freeC y b hy, by rw [← Zin hy]; exact q⟩
  have old : ∀ {b}, (∃ o, X.s_0.heap.get? b = some o) → Z b = none := fun {b} ⟨o, q⟩ => by
    cases hz : Z b with
    | none => rfl
    | some o' =>
      obtain ⟨y, hy⟩ := Zof hz
      exact absurd (Nat.lt_of_lt_of_le (Heap.lt_size q) (I1.ok.cab y b (own y b hy) hy)) (Nat.lt_irrefl _)
  have cz : CFz X.N σ X.env.cells Z := by
    refine ⟨fun y b hy => ?_, I1.ok.inj⟩
    obtain ⟨u, o, ho, hd⟩ := I1.cell y b hy
    refine ⟨o, u, by rw [Zin hy]; exact ho, hd, fun i v h1 h2 => ?_⟩
    obtain ⟨m, hn, hl⟩ := I1.loc
    obtain ⟨u', rv, lk⟩ := hl i y v h1 h2 (.inr (.inl (knd y b hy)))
    rcases lk with ⟨w1, _⟩ | ⟨_, b', hb', o', ho', hd'⟩
    · have w1 : X.env.scope.names.lookup y = some .local := w1
      rw [knd y b hy] at w1
      cases w1
    · rw [hy] at hb'
      cases hb'
      rw [ho] at ho'
      cases ho'
      rw [hd] at hd'
      cases hd'
      exact ⟨u', rfl, rv⟩
  have nf : ∀ b ∈ frs X.stack, Z b = none := fun b hbm => by
    rw [hst] at hbm
    obtain ⟨en, hen, hf⟩ := List.mem_filterMap.mp hbm
    rcases List.mem_cons.mp hen with rfl | hen
    · rw [hfr] at hf
      cases hf
      cases hz : Z X.env.locals with
      | none => rfl
      | some o' =>
        obtain ⟨y, hy⟩ := Zof hz
        obtain ⟨u, o, ho, hd⟩ := I1.cell y _ hy
        obtain ⟨m, ⟨o2, es, ep, ho2, hd2, _⟩, _⟩ := I1.loc
        rw [ho] at ho2
        cases ho2
        rw [hd] at hd2
        cases hd2
    · obtain ⟨_, o, ho, _⟩ := I1.ok.funs.mem (List.mem_filterMap.mpr ⟨en, hen, hf⟩)
      exact old ⟨o, ho⟩
  have e0 : Env0 X.prog X.w X.K X.mg X.base X.A X.stack s1 (fz Z H1) := env0_fz I1.env0 zo (fun b o q => old ⟨o, (I1.ok.bs b o q).1⟩) nf
  have q := z Z cz fun b o y => (zo b o y).1
  have hl : us.length = [a].length := by rw [← r.length]; exact Fn.len _ _ _ _ q
  have b := hb s1 us I1.kIn (by rw [List.append_nil]; exact hl)
  rw [List.append_nil] at b
  refine wpAny_call (codeAny_mono (Fn.run X.A X.stack s1 (fz Z H1) ⟨us, []⟩ us vs _ _ hr e0 b r q) fun r s' hq => ?_)
  cases r with
  | error e => exact (show False from hq).elim
  | ok fl =>
    cases fl with
    | ret u => exact I1.after (ce_thaw zo hq)
    | next => exact hq.elim
    | brk => exact hq.elim
    | cont => exact hq.elim
end
end PfL

/-! lambdas on data: what a lambda comes to, told of the captured data -/
namespace Pf
open PySem L2 PfL LamX
/-- all but frozen cells is kept -/
def SameW (H H' : Hp) : Prop := ∀ a o, H a = some o → (∀ o' φ, o ≠ .frz o' (.ext φ)) → H' a = some o
section
variable {K : PySem.W.Frag} {H H' : Hp}
theorem sameW_tup {a : Addr} {xs : List V} (e : SameW H H') (h : SqT K H a xs) : SqT K H' a xs := by
  rcases h with (h | ⟨o, h⟩) | h
  · exact .inl (.inl (e _ _ h fun _ _ z => by cases z))
  · exact .inl (.inr ⟨o, e _ _ h fun _ _ z => by cases z⟩)
  · exact .inr h
mutual
theorem Rep.monoW (e : SameW H H') : ∀ {v : V} {d : D}, Rep K H v d → Rep K H' v d
  | _, _, .non => .non
  | _, _, .bl b => .bl b
  | _, _, .int i => .int i
  | _, _, .str x => .str x
  | _, _, .lst h r => .lst (e _ _ h fun _ _ z => by cases z) (RepL.monoW e r)
  | _, _, .tup h r => .tup (sameW_tup e h) (RepL.monoW e r)
  | _, _, .dic h r => .dic (e _ _ h fun _ _ z => by cases z) (RepK.monoW e r)
  | _, _, .ins h r => .ins (e _ _ h fun _ _ z => by cases z) (RepF.monoW e r)
  | _, _, .ty n => .ty n
  | _, _, .adr a => .adr a
  | _, _, .exc h g r => .exc (e _ _ h fun _ _ z => by unfold exo at z; cases z) (e _ _ g fun _ _ z => by unfold exd at z; cases z) (RepF.monoW e r)
  | _, _, .fn h r => .fn (fun p hp => ⟨e _ _ (h p hp).1 fun o φ => (h p hp).2 o _, (h p hp).2⟩) (RepL.monoW e r)
theorem RepL.monoW (e : SameW H H') : ∀ {v : List V} {d : List D}, RepL K H v d → RepL K H' v d
  | _, _, .nil => .nil
  | _, _, .cons h r => .cons (Rep.monoW e h) (RepL.monoW e r)
theorem RepK.monoW (e : SameW H H') : ∀ {v : List (Key × V)} {d : List (Key × D)}, RepK K H v d → RepK K H' v d
  | _, _, .nil => .nil
  | _, _, .cons h r => .cons (Rep.monoW e h) (RepK.monoW e r)
theorem RepF.monoW (e : SameW H H') : ∀ {v : List (Str × V)} {d : List (Str × D)}, RepF K H v d → RepF K H' v d
  | _, _, .nil => .nil
  | _, _, .cons h r => .cons (Rep.monoW e h) (RepF.monoW e r)
end
end
theorem sameW_uz {Z : Zm} {H : Hp} {M : Addr → Bool} (z : In Z H) : SameW (hd M H) (hd M (uz Z H)) := fun a o h n => by
  obtain ⟨m, h⟩ := hd_of h
  refine hd_at m ?_
  cases q : Z a with
  | none => rw [uz_out q]; exact h
  | some o' =>
    rw [z a o' q] at h
    exact absurd (Option.some.inj h).symm (n o' _)
theorem same_fz {Z : Zm} {H : Hp} {M : Addr → Bool} (z : ∀ b o, Z b = some o → H b = none) : Same (hd M H) (hd M (fz Z H)) := fun a o h => by
  obtain ⟨m, h⟩ := hd_of h
  refine hd_at m ?_
  cases q : Z a with
  | none => rw [fz_out q]; exact h
  | some o' => rw [z a o' q] at h; cases h
theorem same_fz0 {Z : Zm} {H : Hp} (z : ∀ b o, Z b = some o → H b = none) : Same H (fz Z H) := fun a o h => by
  cases q : Z a with
  | none => rw [fz_out q]; exact h
  | some o' => rw [z a o' q] at h; cases h
theorem same_uzfz {Z : Zm} {H H' : Hp} (z : In Z H) (s : Same (uz Z H) H') : Same H (fz Z H') := fun a o h => by
  cases q : Z a with
  | none =>
    rw [fz_out q]
    exact s a o (by rw [uz_out q]; exact h)
  | some o' =>
    rw [z a o' q] at h
    rw [fz_in q]
    exact h
/-! ### the captured slots -/
def keepD (js : List Nat) (i : Nat) : SD → SD
  | .dat d => if i ∈ js then .dat d else .un
  | _ => .un
def keepS (js : List Nat) (δ : List SD) : List SD := δ.mapIdx (keepD js)
def capV (js : List Nat) (σ : L2.St) : List V := js.map fun j => (σ.getD j none).getD .non
def capD (js : List Nat) (δ : List SD) : List D := js.map fun j => match δ.getD j .un with
  | .dat d => d | _ => .non
theorem keepS_get {js : List Nat} {δ : List SD} {i : Nat} {x : SD} (h : (keepS js δ)[i]? = some x) : x = .un ∨ ∃ d, x = .dat d ∧ i ∈ js ∧ δ[i]? = some (.dat d) := by
  unfold keepS at h
  rw [List.getElem?_mapIdx] at h
  cases e : δ[i]? with
  | none => rw [e] at h; cases h
  | some y =>
    rw [e] at h
    obtain rfl := Option.some.inj (show some (keepD js i y) = some x from h)
    cases y with
    | dat d =>
      unfold keepD
      by_cases hi : i ∈ js
      · exact .inr ⟨d, if_pos hi, hi, rfl⟩
      · exact .inl (if_neg hi)
    | _ => exact .inl rfl
theorem cap_rep {F : Fm} {M : Addr → Bool} {σ : L2.St} {H : Hp} {δ : List SD} (c : Ctx F M σ H δ) : ∀ {js : List Nat}, (∀ j ∈ js, ∃ d, δ[j]? = some (.dat d)) → RepL F.K (hd M H) (capV js σ) (capD js δ)
  | [], _ => .nil
  | j :: js, h => by
    obtain ⟨d, hd'⟩ := h j (by simp)
    obtain ⟨v, h1, r⟩ := c.get hd'
    have e1 : (σ.getD j none).getD V.non = v := by simp [List.getD, h1]
    have e2 : (match δ.getD j .un with | .dat d => d | _ => D.non) = d := by simp [List.getD, hd']
    unfold capV capD
    rw [List.map_cons, List.map_cons, e1, e2]
    exact .cons r (cap_rep c fun k hk => h k (List.mem_cons_of_mem _ hk))
theorem cap_get {K : PySem.W.Frag} {H : Hp} {σ : L2.St} {δ : List SD} : ∀ {js : List Nat}, RepL K H (capV js σ) (capD js δ) → ∀ j ∈ js, ∀ d v, δ[j]? = some (.dat d) → σ[j]? = some (some v) → Rep K H v d
  | [], _, j, hj, _, _, _, _ => by cases hj
  | k :: js, r, j, hj, d, v, h1, h2 => by
    unfold capV capD at r
    rw [List.map_cons, List.map_cons] at r
    cases r with
    | cons r rs =>
      rcases List.mem_cons.mp hj with rfl | hj
      · have e1 : (σ.getD j none).getD V.non = v := by simp [List.getD, h2]
        have e2 : (match δ.getD j .un with | .dat d => d | _ => D.non) = d := by simp [List.getD, h1]
        rw [e1, e2] at r
        exact r
      · exact cap_get rs j hj d v h1 h2
/-- what the function at f comes to, told of what it captured -/
def ActD (P : Program) (w : World) (K : PySem.W.Frag) (mg : Str → Option Value) (base : Heap) (k : Nat) (f : Addr) (ws : List V) (cs : List D) (H : Hp) (Pn : D → Prop) (PX : Addr → List (Str × D) → Prop) : Prop :=
  ∀ (M' : Addr → Bool) (H' : Hp) (Q : VK) (E : XK), Same H H' → Al M' H' → RepL K (hd M' H') ws cs → (∀ v d H'', Pn d → Same H' H'' → Rep K (hd M' H'') v d → Q v H'') →
    (∀ C gs dx fvs H'', PX C gs → Same H' H'' → H' dx = none → H'' dx = some (.xd fvs) → RepF K (hd M' H'') fvs gs → E (.ref C) (some dx) H'') → (∃ F, Rdy f F H') ∧ tAct P w K mg base k f H' Q E
/-- what is kept of a lambda -/
def LamIs (f : Addr) (F : LF) (hs : List (Addr × HO)) : Prop := (F.params = par0 → F.dV = .none) ∧ ∀ H : Hp, (∀ p ∈ hs, H p.1 = some p.2) → Rdy f F H ∧ (F.params ≠ par0 → ∃ t v, F.dV = .ref t ∧ H t = some (.tup [v]))
section
variable {P : Program} {w : World} {K : PySem.W.Frag} {mg : Str → Option Value} {base : Heap} {k : Nat} {N as : List Str} {Fm' : Fm} {M : Addr → Bool} {σ : L2.St} {H : Hp} {δ : List SD} {f : Addr} {F : LF} {hs : List (Addr × HO)} {Z : Zm} {Pn : D → Prop} {PX : Addr → List (Str × D) → Prop} {js : List Nat} {tb : XK → TE}
theorem act_data (c : Ctx Fm' M σ H δ) (hK : Fm'.K = K) (zn : ∀ b o, Z b = some o → H b = none) (hN : δ.length = N.length) (li : LamIs f F hs) (hh : ∀ p ∈ hs, H p.1 = some p.2) (pr : Par F.params as) (L : LSc N as F.scope) (C : CFz N σ F.cl Z) (hc : ∀ y, F.scope.names.lookup y = some .free → ∃ c, F.cl.lookup y = some c)
    (hbody : ∀ (A : Around) (outer : List Env) (s : Shared) (H0 : Hp) (E' : XK), Room k (A.deeper (lamE F s.heap.objs.size f)) → PE (lamX P w K mg base N A outer s H0 E' F f) F.body (tb E')) (hj : ∀ j ∈ js, ∃ d, δ[j]? = some (.dat d))
    (hev : ∀ (M' : Addr → Bool) (H' : Hp) (E' : XK), RaiseOk ⟨K, none, M', H', E', 0, []⟩ PX → Ev ⟨K, none, M', H', E', 0, []⟩ (tb E') (keepS js δ) Pn) :
    ActD P w K mg base (k + 1) f (capV js σ) (capD js δ) (fz Z H) Pn PX := by
  intro M' H' Q E s al rep qn qx
  have zi : In Z H' := fun b o e => s b _ (fz_in e)
  have hh' : ∀ p ∈ hs, H' p.1 = some p.2 := fun p hp => s _ _ (same_fz0 zn _ _ (hh p hp))
  obtain ⟨r1, r2⟩ := li.2 H' hh'
  refine ⟨⟨F, r1⟩, act_lam pr li.1 r2 r1 zi L C hc (by rw [c.ln, hN]) (fun A outer s E' hr => hbody A outer s _ E' hr) ?_⟩
  have rep' := rep.monoW (sameW_uz zi)
  have al' : Al M' (uz Z H') ∨ True := .inr trivial
  -- the mask without the cells
  let M2 : Addr → Bool := fun a => M' a && (Z a).isNone
  have hM2 : hd M2 (uz Z H') = hd M' (uz Z H') := by
    funext a
    unfold hd
    show (if (M' a && (Z a).isNone) = true then none else _) = _
    cases q : Z a with
    | none => simp
    | some o => simp [uz_in q]
  have al2 : Al M2 (uz Z H') := fun a m => by
    have m : (M' a && (Z a).isNone) = true := m
    rw [Bool.and_eq_true] at m
    obtain ⟨o, ho⟩ := al a m.1
    cases q : Z a with
    | none => exact ⟨o, by rw [uz_out q]; exact ho⟩
    | some o => rw [q] at m; cases m.2
  have cx : Ctx ⟨K, none, M2, uz Z H', (fun cls d H'' => (∀ b o, Z b = some o → H'' b = none) → E cls d (fz Z H'')), 0, []⟩ M2 σ (uz Z H') (keepS js δ) := by
    refine ⟨al2, al2, fun _ h => h, StepB.refl _ _, ⟨fun b z => (nomatch z), fun a h => (nomatch h)⟩, by unfold keepS; rw [List.length_mapIdx]; exact c.ln, fun i x hx => ?_, fun i j p ds es h1 h2 => ?_, fun i p ds h => ?_⟩
    · rcases keepS_get hx with rfl | ⟨d, rfl, hi, h⟩
      · have hl : i < σ.length := by
          have := (List.getElem?_eq_some_iff.mp hx).1
          unfold keepS at this
          rw [List.length_mapIdx] at this
          rw [c.ln]
          exact this
        exact ⟨σ[i], by simp [hl], trivial⟩
      · obtain ⟨v, h1, _⟩ := c.get h
        refine ⟨some v, h1, v, rfl, ?_⟩
        rw [hM2]
        exact cap_get rep' i hi d v h h1
    · rcases keepS_get h1 with z | ⟨d, z, _⟩ <;> cases z
    · rcases keepS_get h with z | ⟨d, z, _⟩ <;> cases z
  have up : ∀ {H''}, StepB (Fm.mv ⟨K, none, M2, uz Z H', (fun cls d H'' => (∀ b o, Z b = some o → H'' b = none) → E cls d (fz Z H'')), 0, []⟩) (uz Z H') H'' → Same (uz Z H') H'' := fun {H''} s a o h => s a o (mv_none rfl rfl a) h
  have msk : ∀ {H'' : Hp}, (∀ b o, Z b = some o → H'' b = none) → Same (hd M2 H'') (hd M' (fz Z H'')) := fun {H''} zn a o h => by
    obtain ⟨m, h⟩ := hd_of h
    have q : Z a = none := by
      cases q : Z a with
      | none => rfl
      | some o' => rw [zn a o' q] at h; cases h
    refine hd_at ?_ (by rw [fz_out q]; exact h)
    have m : (M' a && (Z a).isNone) = false := m
    rw [q] at m
    simpa using m
  have ok : RaiseOk ⟨K, none, M2, uz Z H', (fun cls d H'' => (∀ b o, Z b = some o → H'' b = none) → E cls d (fz Z H'')), 0, []⟩ PX := fun C gs dx fvs H'' px s0 h0 hx rf zn => by
    have s1 := up s0
    have hz : Z dx = none := by
      cases q : Z dx with
      | none => rfl
      | some o' => rw [zn dx o' q] at hx; cases hx
    refine qx C gs dx fvs (fz Z H'') px (same_uzfz zi s1) ?_ (by rw [fz_out hz]; exact hx) (rf.mono (msk zn))
    have h0 : uz Z H' dx = none := h0
    rwa [uz_out hz] at h0
  refine hev M2 (uz Z H') _ ok M2 σ (uz Z H') _ cx fun v d H'' pd c2 s2 r zn => ?_
  exact qn v d (fz Z H'') pd (same_uzfz zi (up s2)) (r.mono (msk zn))
end
end Pf

namespace Pf
open PySem L2 PfL LamX PfT HandSPX
/-! ### a lambda is made -/
theorem ev_lam {F : Fm} {δ : List SD} {Pd : D → Prop} {P : Addr} {q : Str} {params : Arguments} {body : Expr} {scope : Scope} {cells : List (Str × Addr)} (hT : F.T = [(P, q)]) (hp : params = par0 ∨ params.defaults ≠ [])
    (h : ∀ f F' hs, LamIs f F' hs → F' = ⟨q, params, body, scope, cloFrom cells scope.names [], F'.c, F'.dV⟩ → Pd (.fn f hs [] [])) : Ev F (tMkL P q params body scope cells) δ Pd := fun M σ H Q c g => by
  have hm : (P, q) ∈ F.T := by rw [hT]; simp
  obtain ⟨m0, tS, nx⟩ := c.bg.2 (P, q) hm
  refine ⟨tS, fun f F' H1 mk => ?_⟩
  obtain ⟨ps1, hP1, _⟩ := mk.tab
  have e : StepB F.mv H H1 := fun a o n z => mk.ext a o (fun y => n (.inr ⟨(P, q), hm, y.symm⟩)) z
  have hP : ∃ ps, H P = some (.tbl ps) := by obtain ⟨ps, z, _⟩ := tS; exact ⟨ps, z⟩
  have neP : ∀ {a xs}, H a = some (.lst xs) → a ≠ P := fun {a xs} z y => by
    obtain ⟨ps, w⟩ := hP
    rw [y, w] at z
    cases z
  have nx1 : NX M H1 := fun a φ m z => by
    obtain ⟨o, ho⟩ := c.al a m
    by_cases y : a = P
    · rw [y, hP1] at z
      cases z
    · rw [mk.ext a o y ho] at z
      cases z
      exact nx a φ m ho
  have bag : ∀ b, F.B = some b → F.M0 b = true ∧ BagAt H1 b F.C0 ∧ ∃ o, F.H0 F.C0 = some o := fun b z => by
    obtain ⟨g0, g1, g2⟩ := c.bg.1 b z
    obtain ⟨ns, k, z1, z2, z3, q1, q2, q3, q4⟩ := g1
    exact ⟨g0, ⟨ns, k, z1, z2, z3, mk.ext _ _ (neP q1) q1, q2, mk.ext _ _ (neP q3) q3, q4⟩, g2⟩
  have c1 : Ctx F M σ H1 δ := c.stepG e ⟨bag, fun r z => by
    rw [hT] at z
    rw [List.mem_singleton.mp z]
    exact ⟨m0, mk.tab, nx1⟩⟩
  have mnew : ∀ {a}, H a = none → M a = false := fun {a} z => by
    cases y : M a with
    | false => rfl
    | true => obtain ⟨o, ho⟩ := c.al a y; rw [z] at ho; cases ho
  have mc : M F'.c = false := by
    cases y : M F'.c with
    | false => rfl
    | true => exact absurd mk.rdy.cd (nx1 _ _ y)
  rcases hp with hp | hp
  · have d0 : F'.dV = .none := mk.d0 (by rw [hp]; rfl)
    have hpar : F'.params = params := by rw [mk.eq]
    refine g (.ref f) (.fn f [(f, LamO f F'), (F'.c, CodeO F'.c F'.qual)] [] []) H1 (h f F' _ ⟨fun _ => d0, fun H2 hh => ⟨⟨hh (f, LamO f F') (by simp), hh (F'.c, CodeO F'.c F'.qual) (by simp), .inl d0⟩, fun n => absurd (hpar.trans hp) n⟩⟩ mk.eq) c1 e (.fn (fun p z => ?_) .nil)
    simp only [List.mem_cons, List.not_mem_nil, or_false] at z
    rcases z with rfl | rfl
    · exact ⟨hd_at (mnew mk.new) mk.rdy.fn, fun o u z => by have z : LamO f F' = .frz o u := z; unfold LamO at z; cases z⟩
    · exact ⟨hd_at mc mk.rdy.cd, fun o u z => by have z : CodeO F'.c F'.qual = .frz o u := z; unfold CodeO at z; cases z⟩
  · obtain ⟨t, v, dt, nt, ht⟩ := mk.d1 hp
    have hpar : F'.params = params := by rw [mk.eq]
    refine g (.ref f) (.fn f [(f, LamO f F'), (F'.c, CodeO F'.c F'.qual), (t, .tup [v])] [] []) H1 (h f F' _ ⟨fun y => absurd (by rw [← hpar, y]; rfl) hp, fun H2 hh => ⟨⟨hh (f, LamO f F') (by simp), hh (F'.c, CodeO F'.c F'.qual) (by simp), .inr ⟨t, v, dt, hh (t, .tup [v]) (by simp)⟩⟩, fun _ => ⟨t, v, dt, hh (t, .tup [v]) (by simp)⟩⟩⟩ mk.eq) c1 e (.fn (fun p z => ?_) .nil)
    simp only [List.mem_cons, List.not_mem_nil, or_false] at z
    rcases z with rfl | rfl | rfl
    · exact ⟨hd_at (mnew mk.new) mk.rdy.fn, fun o u z => by have z : LamO f F' = .frz o u := z; unfold LamO at z; cases z⟩
    · exact ⟨hd_at mc mk.rdy.cd, fun o u z => by have z : CodeO F'.c F'.qual = .frz o u := z; unfold CodeO at z; cases z⟩
    · exact ⟨hd_at (mnew nt) ht, fun o u z => by cases z⟩
/-! ### errors as the laws tell them -/
/-- the field that a law reads of an error of this code -/
def fieldOf (n : Str) : Option Str := if n ∈ (["InvalidRow", "InvalidState", "InvalidGroup", "InvalidCommand"] : List Str) then some "at" else if n ∈ (["DuplicateNumber", "UnknownNumber"] : List Str) then some "number" else if n ∈ (["DuplicateName", "UnknownName"] : List Str) then some "name" else
  if n ∈ (["PartsDiffer", "Ended", "NothingLeft"] : List Str) then none else if n ∈ (["InvalidText", "TooMany"] : List Str) then some (if n = "InvalidText" then ("line" : Str) else ("most" : Str)) else if n ∈ (["WrongReader", "Full"] : List Str) then some (if n = "WrongReader" then ("first" : Str) else ("limit" : Str)) else some "given"
def errNames : List Str := ["code", "at", "number", "name", "line", "most", "first", "limit", "given"]
/-- the error's class may be asked for these, its code is n, the field that is read of it is x -/
structure ErrIs (K : PySem.W.Frag) (ct : List Value) (C : Addr) (gs : List (Str × D)) (n : Str) (x : D) : Prop where
  ex : PySem.W.exmAny K (.ref C) ct = some true
  cl : ExcC K C
  na : ∀ f ∈ errNames, PySem.W.findIn K (.ref C) f = some none
  cd : List.lookup ("code" : Str) gs = some (D.str n)
  fd : match fieldOf n with
    | none => x = .non
    | some f => List.lookup (f : Str) gs = some x
def ErrOut (K : PySem.W.Frag) (ct : List Value) (C : Addr) (gs : List (Str × D)) (Po : D → Prop) : Prop := ∃ n x, ErrIs K ct C gs n x ∧ Po (.tup [.str n, x])
/-! ### what _law_try and _law_tries promise -/
section
variable (P : Program) (w : World) (K : PySem.W.Frag) (mg : Str → Option Value) (base : Heap) (k : Nat) (ct : List Value)
/-- a lambda's item: what it comes to is Po -/
structure ItOk (f : Addr) (ws : List V) (cs : List D) (H : Hp) (Po : D → Prop) : Prop where
  ex : ∃ Pn PX, ActD P w K mg base k f ws cs H Pn PX ∧ (∀ d, Pn d → Po (.tup [.str "", d])) ∧ ∀ C gs, PX C gs → ErrOut K ct C gs Po
def spTry : Sp := fun vs H Q _ => ∃ (M : Addr → Bool) (f : Addr) (ws : List V) (cs : List D) (Po : D → Prop), vs = [.ref f] ∧ Al M H ∧ RepL K (hd M H) ws cs ∧ ItOk P w K mg base k ct f ws cs H Po ∧ ∀ v d H', Po d → Same H H' → Rep K (hd M H') v d → Q v H'
abbrev It := Addr × List V × List D × (D → Prop)
inductive OutL : List It → List D → Prop
  | nil : OutL [] []
  | cons {it : It} {is : List It} {d : D} {ds : List D} : it.2.2.2 d → OutL is ds → OutL (it :: is) (d :: ds)
end
theorem OutL.snoc {it : It} {d : D} (h : it.2.2.2 d) : ∀ {is : List It} {ds : List D}, OutL is ds → OutL (is ++ [it]) (ds ++ [d])
  | _, _, .nil => .cons h .nil
  | _, _, .cons g r => .cons g (r.snoc h)
theorem OutL.len : ∀ {is : List It} {ds : List D}, OutL is ds → ds.length = is.length
  | _, _, .nil => rfl
  | _, _, .cons _ r => by rw [List.length_cons, List.length_cons, r.len]
section
variable {P : Program} {w : World} {K : PySem.W.Frag} {mg : Str → Option Value} {base : Heap} {k : Nat} {ct : List Value}
theorem ActD.later {f : Addr} {ws : List V} {cs : List D} {H H1 : Hp} {Pn : D → Prop} {PX : Addr → List (Str × D) → Prop} (a : ActD P w K mg base k f ws cs H Pn PX) (s : Same H H1) : ActD P w K mg base k f ws cs H1 Pn PX := fun M' H' Q E s1 al r qn qx => a M' H' Q E (s.trans s1) al r qn qx
theorem ItOk.later {f : Addr} {ws : List V} {cs : List D} {H H1 : Hp} {Po : D → Prop} (a : ItOk P w K mg base k ct f ws cs H Po) (s : Same H H1) : ItOk P w K mg base k ct f ws cs H1 Po := by
  obtain ⟨Pn, PX, h, h2⟩ := a.ex
  exact ⟨Pn, PX, h.later s, h2⟩
theorem spTry_len {vs : List V} {H : Hp} {Q : VK} {E : XK} (h : spTry P w K mg base k ct vs H Q E) : vs.length = 1 := by
  obtain ⟨_, _, _, _, _, rfl, _⟩ := h
  rfl
end
end Pf

namespace Pf
open PySem L2 PfL LamX PfT HandSPX
section
variable {P : Program} {w : World} {K : PySem.W.Frag} {mg : Str → Option Value} {base : Heap} {k : Nat} {ct : List Value} {N : List Str} {cells : List (Str × Addr)} {δ : List SD}
/-- all that must be known of a lambda so that it may be asked: Po is what comes of it -/
def LamOk (P : Program) (w : World) (K : PySem.W.Frag) (mg : Str → Option Value) (base : Heap) (k : Nat) (ct : List Value) (N : List Str) (cells : List (Str × Addr)) (δ : List SD) (f : Addr) (hs : List (Addr × HO)) (Po : D → Prop) : Prop :=
  ∃ (F' : LF) (as : List Str) (tb : XK → TE) (js : List Nat) (Pn : D → Prop) (PX : Addr → List (Str × D) → Prop), LamIs f F' hs ∧ F'.cl = cloFrom cells F'.scope.names [] ∧ (∀ y ∈ F'.scope.names, y.2 = .free → ∃ c, cells.lookup y.1 = some c) ∧ Par F'.params as ∧ LSc N as F'.scope ∧
    (∀ (A : Around) (outer : List Env) (s : Shared) (H0 : Hp) (E' : XK), Room k (A.deeper (lamE F' s.heap.objs.size f)) → PE (lamX P w K mg base N A outer s H0 E' F' f) F'.body (tb E')) ∧ (∀ j ∈ js, ∃ d, δ[j]? = some (.dat d)) ∧
    (∀ (M' : Addr → Bool) (H' : Hp) (E' : XK), RaiseOk ⟨K, none, M', H', E', 0, []⟩ PX → Ev ⟨K, none, M', H', E', 0, []⟩ (tb E') (keepS js δ) Pn) ∧ (∀ d, Pn d → Po (.tup [.str "", d])) ∧ ∀ C gs, PX C gs → ErrOut K ct C gs Po
theorem lam_item {F : Fm} {M : Addr → Bool} {σ : L2.St} {H : Hp} {Z : Zm} {f : Addr} {hs : List (Addr × HO)} {Po : D → Prop} (c : Ctx F M σ H δ) (hK : F.K = K) (hN : δ.length = N.length) (cz : CFz N σ cells Z) (zn : ∀ b o, Z b = some o → H b = none) (lo : LamOk P w K mg base k ct N cells δ f hs Po) (hh : ∀ p ∈ hs, H p.1 = some p.2) :
    ∃ ws cs, RepL K (hd M (fz Z H)) ws cs ∧ ItOk P w K mg base (k + 1) ct f ws cs (fz Z H) Po := by
  obtain ⟨F', as, tb, js, Pn, PX, li, hcl, hfree, pr, L, hb, hj, hev, hn, hx⟩ := lo
  have cz' : CFz N σ F'.cl Z := ⟨fun y c e => cz.at_ y c (NdefX.clo_cm hfree (hcl ▸ e)), fun x y c e1 e2 => cz.inj x y c (NdefX.clo_cm hfree (hcl ▸ e1)) (NdefX.clo_cm hfree (hcl ▸ e2))⟩
  have hc : ∀ y, F'.scope.names.lookup y = some .free → ∃ c, F'.cl.lookup y = some c := fun y e => by
    obtain ⟨c, hc⟩ := hfree _ (PySem.mem_of_lookup e) rfl
    exact ⟨c, by rw [hcl]; exact NdefX.clo_has hfree (PySem.mem_of_lookup e) hc⟩
  have r := cap_rep c hj
  rw [hK] at r
  exact ⟨capV js σ, capD js δ, r.mono (same_fz zn), ⟨Pn, PX, act_data c hK zn hN li hh pr L cz' hc hb hj hev, hn, hx⟩⟩
theorem al_fz {M : Addr → Bool} {H : Hp} {Z : Zm} (al : Al M H) : Al M (fz Z H) := fun a m => by
  obtain ⟨o, ho⟩ := al a m
  cases q : Z a with
  | none => exact ⟨o, by rw [fz_out q]; exact ho⟩
  | some o' => exact ⟨_, fz_in q⟩
theorem same_back {H1 H' : Hp} {Z : Zm} (zn : ∀ b o, Z b = some o → H1 b = none) (s : Same (fz Z H1) H') : Same H1 (uz Z H') := fun a o h => by
  cases q : Z a with
  | none =>
    rw [uz_out q]
    exact s a o (by rw [fz_out q]; exact h)
  | some o' => rw [zn a o' q] at h; cases h
/-- _law_try(e), asked by the frame that made the lambda -/
theorem ev_fz1 {F : Fm} {te : TE} {Pd : D → Prop} (hK : F.K = K) (hN : δ.length = N.length) (h : Ev F te δ fun d => ∃ f hs, d = .fn f hs [] [] ∧ LamOk P w K mg base k ct N cells δ f hs Pd) : Ev F (tFz N cells (spTry P w K mg base (k + 1) ct) te) δ Pd := fun M σ H Q c q =>
  h M σ H _ c fun v d H1 pd c1 e1 r1 Z cz zn => by
    subst hK
    obtain ⟨f, hs, rfl, lo⟩ := pd
    cases r1 with
    | fn hh _ =>
      obtain ⟨ws, cs, r, it⟩ := lam_item c1 rfl hN cz zn lo fun p hp => (hd_of (hh p hp).1).2
      refine ⟨M, f, ws, cs, Pd, rfl, al_fz c1.al, r, it, fun v d H' pd s r2 zi => ?_⟩
      have s1 := same_back zn s
      exact q v d (uz Z H') pd (c1.same s1) (e1.trans (StepB.of s1)) (r2.monoW (sameW_uz zi))
inductive OutF : List (D → Prop) → List D → Prop
  | nil : OutF [] []
  | cons {p : D → Prop} {ps : List (D → Prop)} {d : D} {ds : List D} : p d → OutF ps ds → OutF (p :: ps) (d :: ds)
end
/-! ### the field of an error -/
def spField (K : PySem.W.Frag) (ct : List Value) (C a dx : Addr) : Sp := fun vs H Q _ => ∃ (M : Addr → Bool) (fvs : List (Str × V)) (gs : List (Str × D)) (n : Str) (x : D), vs = [.ref a] ∧ Al M H ∧ hd M H dx = some (.xd fvs) ∧ RepF K (hd M H) fvs gs ∧ ErrIs K ct C gs n x ∧ ∀ v H', Same H H' → Rep K (hd M H') v x → Q v H'
theorem repF_keys {K : PySem.W.Frag} {H : Hp} : ∀ {vs : List (Str × V)} {gs : List (Str × D)}, RepF K H vs gs → vs.map Prod.fst = gs.map Prod.fst ∧ RepL K H (vs.map Prod.snd) (gs.map Prod.snd)
  | _, _, .nil => ⟨rfl, .nil⟩
  | _, _, .cons h r => ⟨by rw [List.map_cons, List.map_cons, (repF_keys r).1], .cons h (repF_keys r).2⟩
theorem repF_of {K : PySem.W.Frag} {H : Hp} : ∀ {vs : List (Str × V)} {gs : List (Str × D)}, vs.map Prod.fst = gs.map Prod.fst → RepL K H (vs.map Prod.snd) (gs.map Prod.snd) → RepF K H vs gs
  | [], [], _, _ => .nil
  | [], _ :: _, e, _ => by cases e
  | _ :: _, [], e, _ => by cases e
  | (k, v) :: vs, (k', d) :: gs, e, .cons h r => by
    rw [List.map_cons, List.map_cons, List.cons.injEq] at e
    obtain ⟨e1, e2⟩ := e
    have e1 : k = k' := e1
    subst e1
    exact .cons h (repF_of e2 r)
/-- a slot that bears an error in hand: its dict, its fields -/
def errD (a dx : Addr) (fvs : List (Str × V)) (gs : List (Str × D)) : D := .fn a [(dx, .xd fvs)] (fvs.map Prod.snd) (gs.map Prod.snd)
theorem ev_xfp {F : Fm} {δ : List SD} {i : Nat} {a dx : Addr} {fvs : List (Str × V)} {gs : List (Str × D)} {n : Str} {x : D} {Pd : D → Prop} (hi : δ[i]? = some (.dat (errD a dx fvs gs))) (hk : fvs.map Prod.fst = gs.map Prod.fst) (hg : List.lookup n gs = some x) (p : Pd x) : Ev F (tXfp a dx n (tVar i)) δ Pd := fun M σ H Q c q => by
  obtain ⟨v, h1, r⟩ := c.get hi
  unfold errD at r
  cases r with
  | fn hh r =>
    obtain ⟨y, hy, ry⟩ := (repF_of hk r).get hg
    exact ⟨_, h1, rfl, fvs, y, (hd_of (hh (dx, .xd fvs) (by simp)).1).2, hy, q y x H p c (StepB.refl _ _) ry⟩
end Pf

namespace Pf
open PySem L2 PfL LamX PfT HandSPX
theorem al_mono {M : Addr → Bool} {H H' : Hp} (al : Al M H) (s : Same H H') : Al M H' := fun a m => by
  obtain ⟨o, h⟩ := al a m
  exact ⟨o, s a o h⟩
theorem same_hdS {M : Addr → Bool} {H H' : Hp} (s : Same H H') : Same (hd M H) (hd M H') := fun a o h => by
  obtain ⟨m, h⟩ := hd_of h
  exact hd_at m (s a o h)
/-- return ("", x()) -/
def tbT (P : Program) (w : World) (K : PySem.W.Frag) (mg : Str → Option Value) (base : Heap) (k : Nat) : WX → TS := fun W Dn σ H =>
  ∃ Ech : XK, (∀ cls d (σ' : L2.St) H', σ'.length = 2 → Ech cls d H' → W cls d σ' H') ∧ tRet (tTup (tCons (tC (.str "")) (tCons (tAsk P w K mg base k 0 Ech) tNil))) Dn σ H
/-- return (e.code, _law_field(e)) -/
def tsT (K : PySem.W.Frag) (ct : List Value) : Addr → Value → Option Addr → TS := fun a cls d Dn σ H =>
  ∃ C dx, cls = .ref C ∧ d = some dx ∧ ExcC K C ∧ PySem.W.findIn K (.ref C) "code" = some none ∧ tRet (tTup (tCons (tXfp a dx "code" (tVar 1)) (tCons (tCall (spField K ct C a dx) [] (fun _ _ _ => False) (tCons (tVar 1) tNil)) tNil))) Dn σ H
theorem try_runs {P : Program} {w : World} {K : PySem.W.Frag} {mg : Str → Option Value} {base : Heap} {k : Nat} {ct : List Value} {N : List Str} {vs : List V} {H : Hp} {Q : VK} {E : XK} (hN : N.length = 2) (h : spTry P w K mg base k ct vs H Q E) :
    tbT P w K mg base k (wAsT K ct 1 (tsT K ct) (fun _ _ _ _ => False) { nx := fun _ H' => Q .non H', rt := Q }) { nx := fun _ H' => Q .non H', rt := Q } (L2.start N vs) H := by
  obtain ⟨M, f, ws, cs, Po, rfl, al, r, it, q⟩ := h
  obtain ⟨Pn, PX, act, hn, hx⟩ := it.ex
  refine ⟨fun cls d H' => ∀ σ' : L2.St, σ'.length = 2 → wAsT K ct 1 (tsT K ct) (fun _ _ _ _ => False) { nx := fun _ H' => Q .non H', rt := Q } cls d σ' H', fun cls d σ' H' hl e => e σ' hl, ?_⟩
  obtain ⟨⟨F', rdy⟩, ta⟩ := act M H (fun v H1 => 2 ≤ sizeLine ∧ ∀ p, H1 p = none → Q (.ref p) (upd H1 p (.tup [.str "", v]))) (fun cls d H' => ∀ σ' : L2.St, σ'.length = 2 → wAsT K ct 1 (tsT K ct) (fun _ _ _ _ => False) { nx := fun _ H' => Q .non H', rt := Q } cls d σ' H') (Same.refl H) al r
    (fun v d H'' pd s rv => ⟨sz_of (show 2 ≤ 100000 by decide), fun p hp => q (.ref p) (.tup [.str "", d]) _ (hn d pd) (s.trans (same_new hp)) (.tup (SqT.of (hd_new (al_mono al s) hp)) (.cons (.str _) (.cons (rv.mono (same_hdS (same_new hp))) .nil)))⟩)
    (fun C gs dx fvs H'' px s h0 hx' rf σ' hl => by
      obtain ⟨n, x, ei, po⟩ := hx C gs px
      have al'' := al_mono al s
      have mdx : M dx = false := by
        cases y : M dx with
        | false => rfl
        | true => obtain ⟨o, ho⟩ := al dx y; rw [h0] at ho; cases ho
      obtain ⟨y, hy, ry⟩ := rf.get ei.cd
      cases ry
      refine ⟨true, ei.ex, fun _ a ha => ⟨C, dx, rfl, rfl, ei.cl, ei.na _ (by decide), ?_⟩, fun z => by cases z⟩
      have h1 : (σ'.set 1 (some (V.ref a)))[1]? = some (some (V.ref a)) := by
        rw [List.getElem?_set_self (by omega)]
      refine ⟨_, h1, rfl, fvs, .str n, hx', hy, _, h1, ?_⟩
      show spField K ct C a dx ([.ref a] ++ []) H'' _ (fun _ _ _ => False)
      refine ⟨M, fvs, gs, n, x, rfl, al'', hd_at mdx hx', rf, ei, fun v H3 s3 rv => ⟨sz_of (show 2 ≤ 100000 by decide), fun p hp => ?_⟩⟩
      have s4 : Same H'' (upd H3 p (.tup [.str n, v])) := s3.trans (same_new hp)
      exact q (.ref p) (.tup [.str n, x]) _ po (s.trans s4) (.tup (SqT.of (hd_new (al_mono al'' s3) hp)) (.cons (.str _) (.cons (rv.mono (same_hdS (same_new hp))) .nil))))
  have h0 : (L2.start N [V.ref f])[0]? = some (some (V.ref f)) := rfl
  exact ⟨f, F', h0, rdy, ta⟩
/-! ### the law's frame, with its table -/
end Pf

namespace Pf
open PySem L2 PfL LamX PfT HandSPX
/-! ### an __init__ that may raise; its last argument is a sequence -/
section
variable {K : PySem.W.Frag} {N : List Str} {vs : List V} {H : Hp} {Q : VK} {E : XK} {t : TS} {C : Addr} {Pre : List D → List D → Prop} {Post : List D → List D → List (Str × D) → Prop} {PX : List D → List D → Addr → List (Str × D) → Prop}
end
end Pf

namespace Pf
open PySem L2 PfL LamX PfT HandSPX PyProof.Rows
/-! ### passing errors on; the law's frame and its cells -/
theorem passX {X : Cx} {E : XK} {E₁ : Value → Shared → Prop} (hs : X.stack = X.env :: X.outer := by rfl) (hf : X.env.frame = some X.env.locals := by rfl) (hex : X.ex = [] := by rfl)
    (hx : X.xe = (fun e s' => wpAny (model X.prog X.w) X.A (leaving X.env e) (fun _ s'' => L2.CX X.prog X.w X.outer X.H_0 X.s_0 E e s'') E₁ s') := by rfl) : Passes (L2.CX X.prog X.w) X E := passes_call (takes_of hs hf hex hx) fun _ _ _ _ h => h
theorem lam_free {X : Cx} {scope : Scope} (h : (scope.names.all fun y => !decide (y.2 = .free) || decide (X.env.scope.names.lookup y.1 = some .cell)) = true) : X.Ok → ∀ y ∈ scope.names, y.2 = .free → ∃ c, X.env.cells.lookup y.1 = some c := fun ok y hy e => by
  have := List.all_eq_true.mp h y hy
  simp only [Bool.or_eq_true, Bool.not_eq_true', decide_eq_false_iff_not, decide_eq_true_eq] at this
  rcases this with z | z
  · exact absurd e z
  · exact ok.has _ (.inl z)
theorem lookup_of_nd {α : Type} : ∀ {l : List (Str × α)} {x : Str} {k : α}, (l.map Prod.fst).Nodup → (x, k) ∈ l → l.lookup x = some k
  | [], _, _, _, h => by cases h
  | (y, j) :: l, x, k, nd, h => by
    rw [List.map_cons, List.nodup_cons] at nd
    rcases List.mem_cons.mp h with e | h
    · cases e
      simp [List.lookup_cons]
    · have ne : x ≠ y := fun e => nd.1 (List.mem_map.mpr ⟨(x, k), h, e⟩)
      rw [List.lookup_cons, show (x == y) = false from beq_eq_false_iff_ne.mpr ne]
      exact lookup_of_nd nd.2 h
theorem law_knd {names : List (Str × NameKind)} {n : Nat} (nd : (names.map Prod.fst).Nodup) : ∀ y c, (cellsFrom n names []).lookup y = some c → names.lookup y = some .cell := fun y c h => by
  rcases cells_kind names n [] (PySem.mem_of_lookup h) with z | ⟨z, _⟩
  · cases z
  · exact lookup_of_nd nd z
/-- a def whose code object is known -/
structure FunC (K : PySem.W.Frag) (x qual : Str) (st : Stmt) (f c : Addr) (fd : FuncData) : Prop where
  ex : ∃ (oc : Value) (od : Option Addr) (kV doc pm : Value) (an : Option Addr) (ct : Value) (osl : Array (Option Value)),
    fd = PySem.W.fnOf x qual (defArgs st) (defBody st) (defScope st) .none kV doc pm an (.ref c) ct ∧ K.lookup f = some ⟨oc, od, .func fd, osl⟩ ∧ PySem.W.codeIn K (.ref c) qual = true
theorem FunC.ok {P : Program} {w : World} {K : PySem.W.Frag} {mg : Str → Option Value} {base : Heap} {x qual : Str} {st : Stmt} {f c : Addr} {fd : FuncData} {N ps : List Str} {k : Nat} {sp : Sp} (F : FunC K x qual st f c fd) (S : FnScope N ps (defScope st)) (len : ∀ vs H Q E, sp vs H Q E → vs.length = ps.length)
    (hbody : ∀ (A : Around) (outer : List Env) (s : Shared) (H : Hp) (vs : List V) (Q : VK) (E : XK), Room k (A.deeper (envOfC qual (defScope st) s.heap.objs.size f (.ref c))) → sp vs H Q E →
      ∃ t, PSs (cxOf CX0 P w K mg base N qual (defScope st) f (.ref c) A outer s H E).nox (defBody st) t ∧ t { nx := fun _ H' => Q .non H', rt := Q } (L2.start N vs) H) : FnOk P w K mg base CX0 (k + 1) f fd ps sp := by
  obtain ⟨oc, od, kV, doc, pm, an, ct, osl, rfl, lk, hcd⟩ := F.ex
  refine fn_of lk hcd S len fun A outer s H vs Q E hr hsp => ?_
  obtain ⟨t, h, q⟩ := hbody A outer s H vs Q E hr hsp
  exact ⟨t, h.nox, q⟩
theorem pss_ex {X : Cx} {st : List Stmt} {t : TS} (h : ∀ D σ H, t D σ H → ∃ t', PSs X st t' ∧ t' D σ H) : PSs X st t := ⟨fun pins s σ H D I g => by
  obtain ⟨t', p, g⟩ := h D σ H g
  exact p.run pins s σ H D I g⟩
end Pf

namespace Pf
open PySem L2 PfL LamX PfT HandSPX PyProof.Rows
/-! ### a def of one sequence that may raise -/
section
variable {K : PySem.W.Frag} {N : List Str} {vs : List V} {H : Hp} {Q : VK} {E : XK} {t : TS} {Pre : List D → Prop} {Post : List D → D → Prop} {PX : List D → Addr → List (Str × D) → Prop}
end
section
variable {F : Fm} {δ : List SD} {P : D → Prop} {Pre : List D → Prop} {Post : List D → D → Prop} {PX : List D → Addr → List (Str × D) → Prop} {QX : Addr → List (Str × D) → Prop}
end
end Pf

/-! CoreZ3: a tuple told backwards, t[::-1]. -/
namespace Bk
open PySem PyProof.Rows
section
variable {prog : Program} {w : World} {A : Around} {E : Value → Shared → Prop} {s : Shared}
theorem applied {sl : Addr} {vc : Value} {n : Nat} {Q : Int × Int × Nat → Shared → Prop} (hs : s.heap.IsSliceOf sl .none .none vc) (pc : IsPart vc (some (-1))) (q : Q ((n : Int) - 1, -1, n) s) : wpAny (model prog w) A (Builtin.Slice.sliceApplied (.ref sl) (pure (n : Int))) Q E s := by
  obtain ⟨o, ho, _, hd⟩ := id hs
  unfold Builtin.Slice.sliceApplied Builtin.Slice.sliceFields
  refine wpAny_bind (wpAny_bind (wpAny_field ho hd (x := .none) rfl (wpAny_bind (wpAny_field ho hd (x := .none) rfl (wpAny_bind (wpAny_field ho hd (x := vc) rfl (wpAny_pure ?_)))))))
  refine wpAny_bind (HT.slicePart_ pc ?_)
  show wpAny _ _ (if ((-1 : Int) == 0) = true then _ else _) _ _ s
  rw [if_neg (by decide)]
  refine wpAny_bind (HT.slicePart_ .none (wpAny_bind (HT.slicePart_ .none (wpAny_bind (wpAny_pure ?_)))))
  have e : Builtin.Slice.slicePlaces ((n : Int) - 1) (-1) (-1) = n := by
    unfold Builtin.Slice.slicePlaces
    rw [if_neg (by decide)]
    by_cases h : ((n : Int) - 1 > -1)
    · rw [if_pos h]
      show ((((n : Int) - 1 - -1 - 1) / (- -1)) + 1).toNat = n
      rw [show (- -1 : Int) = 1 by decide, Int.ediv_one]
      omega
    · rw [if_neg h]
      have : n = 0 := by omega
      subst this
      rfl
  show wpAny _ _ (pure ((n : Int) - 1, (-1 : Int), Builtin.Slice.slicePlaces ((n : Int) - 1) (-1) (-1))) _ _ s
  rw [e]
  exact wpAny_pure q
theorem fm_same {α β : Type} {f g : α → Option β} : ∀ {l : List α}, (∀ k ∈ l, f k = g k) → l.filterMap f = l.filterMap g
  | [], _ => rfl
  | k :: l, h => by
    rw [List.filterMap_cons, List.filterMap_cons, h k (by simp), fm_same fun j hj => h j (List.mem_cons_of_mem _ hj)]
theorem picked (xs : Array Value) : ((List.range xs.size).filterMap fun (k : Nat) => xs[(((xs.size : Int) - 1) + (k : Int) * (-1)).toNat]?).toArray = xs.toList.reverse.toArray := by
  have e : (List.range xs.size).filterMap (fun (k : Nat) => xs[(((xs.size : Int) - 1) + (k : Int) * (-1)).toNat]?) = ((List.range xs.size).map fun k => xs.size - 1 - k).filterMap (xs[·]?) := by
    rw [List.filterMap_map]
    refine fm_same fun k hk => ?_
    have := List.mem_range.mp hk
    have e : (((xs.size : Int) - 1) + (k : Int) * (-1)).toNat = xs.size - 1 - k := by omega
    show xs[(((xs.size : Int) - 1) + (k : Int) * (-1)).toNat]? = xs[xs.size - 1 - k]?
    rw [e]
  rw [e, PySem.W.krv_range, List.filterMap_reverse, PySem.W.krv_all]
theorem item {t sl : Addr} {its : List Value} {vc : Value} {Q : Value → Shared → Prop} (ht : IsTup s.heap t its.toArray) (hs : s.heap.IsSliceOf sl .none .none vc) (pc : IsPart vc (some (-1))) (hz : its.toArray.size ≤ sizeLine)
    (q : Q (.ref s.heap.objs.size) { s with heap := s.heap.push { cls := .type "tuple", data := .seq its.reverse.toArray } }) : wpAny (model prog w) A (getItem (.ref t) (.ref sl)) Q E s := by
  have fits : sizeOk (.seq its.reverse.toArray) := by
    show its.reverse.toArray.size ≤ sizeLine
    rw [List.size_toArray] at hz ⊢
    rw [List.length_reverse]
    exact hz
  obtain ⟨o, ho, hc, _⟩ := id hs
  have hT : s.TypeIs (.ref sl) "slice" := ⟨o, ho, hc⟩
  unfold getItem
  try with_reducible refine wpAny_holding ?_
  first | refine wpAny_bind (wpAny_pure ?_) | skip
  refine wpAny_bind (wpAny_sequenceKey ht.typeIs (by decide) ?_)
  refine wpAny_bind (wpAny_callSpecial?_slot (name := Str.ofString "__getitem__") ht.typeIs PyProof.Rows.slot_tuple_getitem (wpAny_call_entry PyProof.Rows.slot_tuple_getitem ht.typeIs entry_tuple_getitem ?_ (args_tuple_getitem _ _)))
  show wpAny _ _ (Builtin.Tuple.tupleItemsOf (.ref t) >>= _) _ _ s
  refine wpAny_bind (PyProof.Rows.tupleItemsOf_ ht ?_)
  refine wpAny_bind (wpAny_typeOf hT ?_)
  rw [if_pos (by decide)]
  refine wpAny_bind (applied hs pc ?_)
  have no : ¬ ((((its.toArray.size : Int) - 1 == 0) && ((-1 : Int) == 1) && (its.toArray.size == its.toArray.size)) = true) := by
    intro z
    rw [Bool.and_eq_true, Bool.and_eq_true] at z
    exact absurd z.1.2 (by decide)
  show wpAny _ _ (if ((((its.toArray.size : Int) - 1 == 0) && ((-1 : Int) == 1) && (its.toArray.size == its.toArray.size)) = true) then _ else _) _ _ s
  rw [if_neg no, picked]
  first
    | exact wpAny_bind (m := Builtin.Tuple.tupleExact _) (wpAny_newObj_type (wpAny_pure ⟨_, rfl, wpAny_pure q⟩) fits)
    | exact wpAny_bind (m := Builtin.Tuple.tupleExact _) (wpAny_newObj_type (wpAny_bind (wpAny_pure (wpAny_pure ⟨_, rfl, wpAny_pure q⟩))) fits)
    | exact wpAny_bind (wpAny_bind (m := Builtin.Tuple.tupleExact _) (wpAny_newObj_type (wpAny_pure (wpAny_pure ⟨_, rfl, wpAny_pure q⟩)) fits))
    | exact wpAny_bind (wpAny_bind (m := Builtin.Tuple.tupleExact _) (wpAny_newObj_type (wpAny_pure ⟨_, rfl, wpAny_pure q⟩) fits))
end
end Bk
namespace L2
open PySem PySem.Spec PyProof.Rows
end L2
namespace Pf
open PySem L2 RZ
end Pf

namespace Pf
open PySem L2 PfL LamX PfT HandSPX PyProof.Rows
/-! ### a lambda known whole; the law's frame behind its bag -/
theorem law_cells {names sub : List (Str × NameKind)} {n : Nat} (h : (sub.all fun y => !decide (y.2 = .free) || decide (names.lookup y.1 = some .cell)) = true) : ∀ y ∈ sub, y.2 = .free → ∃ c, (cellsFrom n names []).lookup y.1 = some c := fun y hy e => by
  have := List.all_eq_true.mp h y hy
  simp only [Bool.or_eq_true, Bool.not_eq_true', decide_eq_false_iff_not, decide_eq_true_eq] at this
  rcases this with z | z
  · exact absurd e z
  · exact Option.isSome_iff_exists.mp (PySem.W.cellsFrom_some names n [] (.inl z))
section
variable {P : Program} {w : World} {K : PySem.W.Frag} {mg : Str → Option Value} {base : Heap} {k : Nat} {ct : List Value} {N as : List Str} {cells : List (Str × Addr)} {δ : List SD} {f : Addr} {hs : List (Addr × HO)} {Po : D → Prop} {F' : LF} {q : Str} {params : Arguments} {body : Expr} {scope : Scope}
theorem lam_mk {Pn : D → Prop} {PX : Addr → List (Str × D) → Prop} (tb : XK → TE) (js : List Nat) (li : LamIs f F' hs) (eq : F' = ⟨q, params, body, scope, cloFrom cells scope.names [], F'.c, F'.dV⟩) (hfree : ∀ y ∈ scope.names, y.2 = .free → ∃ c, cells.lookup y.1 = some c) (pr : Par params as) (L : LSc N as scope)
    (hbody : ∀ (c : Addr) (dV : Value) (A : Around) (outer : List Env) (s : Shared) (H0 : Hp) (E' : XK), Room k (A.deeper (lamE ⟨q, params, body, scope, cloFrom cells scope.names [], c, dV⟩ s.heap.objs.size f)) → PE (lamX P w K mg base N A outer s H0 E' ⟨q, params, body, scope, cloFrom cells scope.names [], c, dV⟩ f) body (tb E'))
    (hj : ∀ j ∈ js, ∃ d, δ[j]? = some (.dat d)) (hev : ∀ (M' : Addr → Bool) (H' : Hp) (E' : XK), RaiseOk ⟨K, none, M', H', E', 0, []⟩ PX → Ev ⟨K, none, M', H', E', 0, []⟩ (tb E') (keepS js δ) Pn) (hn : ∀ d, Pn d → Po (.tup [.str "", d])) (hx : ∀ C gs, PX C gs → ErrOut K ct C gs Po) : LamOk P w K mg base k ct N cells δ f hs Po := by
  obtain ⟨q', p', b', s', cl', c', dV'⟩ := F'
  injection eq with h1 h2 h3 h4 h5 h6 h7
  subst h1 h2 h3 h4 h5
  exact ⟨_, as, tb, js, Pn, PX, li, rfl, hfree, pr, L, fun A outer s H0 E' hr => hbody c' dV' A outer s H0 E' hr, hj, hev, hn, hx⟩
/-- it comes to an error -/
theorem lam_bad (tb : XK → TE) (js : List Nat) (C : Addr) (gs : List (Str × D)) (n : Str) (x : D) (ei : ErrIs K ct C gs n x) (li : LamIs f F' hs) (eq : F' = ⟨q, params, body, scope, cloFrom cells scope.names [], F'.c, F'.dV⟩) (hfree : ∀ y ∈ scope.names, y.2 = .free → ∃ c, cells.lookup y.1 = some c) (pr : Par params as) (L : LSc N as scope)
    (hbody : ∀ (c : Addr) (dV : Value) (A : Around) (outer : List Env) (s : Shared) (H0 : Hp) (E' : XK), Room k (A.deeper (lamE ⟨q, params, body, scope, cloFrom cells scope.names [], c, dV⟩ s.heap.objs.size f)) → PE (lamX P w K mg base N A outer s H0 E' ⟨q, params, body, scope, cloFrom cells scope.names [], c, dV⟩ f) body (tb E'))
    (hj : ∀ j ∈ js, ∃ d, δ[j]? = some (.dat d)) (hev : ∀ (M' : Addr → Bool) (H' : Hp) (E' : XK), RaiseOk ⟨K, none, M', H', E', 0, []⟩ (fun C' gs' => C' = C ∧ gs' = gs) → Ev ⟨K, none, M', H', E', 0, []⟩ (tb E') (keepS js δ) fun _ => False) : LamOk P w K mg base k ct N cells δ f hs (· = .tup [.str n, x]) :=
  lam_mk (Pn := fun _ => False) tb js li eq hfree pr L hbody hj hev (fun _ h => h.elim) fun C' gs' ⟨e1, e2⟩ => by
    subst e1 e2
    exact ⟨n, x, ei, rfl⟩
/-- it comes to a value -/
theorem lam_good (tb : XK → TE) (js : List Nat) (x : D) (li : LamIs f F' hs) (eq : F' = ⟨q, params, body, scope, cloFrom cells scope.names [], F'.c, F'.dV⟩) (hfree : ∀ y ∈ scope.names, y.2 = .free → ∃ c, cells.lookup y.1 = some c) (pr : Par params as) (L : LSc N as scope)
    (hbody : ∀ (c : Addr) (dV : Value) (A : Around) (outer : List Env) (s : Shared) (H0 : Hp) (E' : XK), Room k (A.deeper (lamE ⟨q, params, body, scope, cloFrom cells scope.names [], c, dV⟩ s.heap.objs.size f)) → PE (lamX P w K mg base N A outer s H0 E' ⟨q, params, body, scope, cloFrom cells scope.names [], c, dV⟩ f) body (tb E'))
    (hj : ∀ j ∈ js, ∃ d, δ[j]? = some (.dat d)) (hev : ∀ (M' : Addr → Bool) (H' : Hp) (E' : XK), RaiseOk ⟨K, none, M', H', E', 0, []⟩ (fun _ _ => False) → Ev ⟨K, none, M', H', E', 0, []⟩ (tb E') (keepS js δ) (· = x)) : LamOk P w K mg base k ct N cells δ f hs (· = .tup [.str "", x]) :=
  lam_mk (Pn := (· = x)) tb js li eq hfree pr L hbody hj hev (fun _ h => by rw [h]) fun C' gs' h => h.elim
theorem keep_dat {js : List Nat} {i : Nat} {d : D} (h : δ[i]? = some (.dat d)) (hi : i ∈ js) : (keepS js δ)[i]? = some (.dat d) := by
  unfold keepS
  rw [List.getElem?_mapIdx, h]
  show some (if i ∈ js then SD.dat d else .un) = _
  rw [if_pos hi]
end
/-- the slot of a captured name -/
theorem ev_cap {F : Fm} {δ : List SD} {P : D → Prop} {js : List Nat} {i : Nat} {d : D} (h : δ[i]? = some (.dat d)) (hi : i ∈ js) (p : P d) : Ev F (tVar i) (keepS js δ) P := ev_var (keep_dat h hi) p
end Pf
namespace Pf
open PySem L2
theorem nodup_by {names : List (Str × NameKind)} (h : decide ((names.map Prod.fst).Nodup) = true) : (names.map Prod.fst).Nodup := of_decide_eq_true h
end Pf

/-! CoreZ5: x in own, x not in own; methods that may raise. -/
namespace Pf
open PySem L2 PfL LamX PfT HandSPX PyProof.Rows
section
variable {prog : Program} {w : World} {A : Around} {E : Value → Shared → Prop} {s : Shared} {K : PySem.W.Frag} {x C f : Addr} {ox : Obj} {od : Option Obj} {b : Value}
end
section
variable {X : Cx} {CX : CXT} {n : Nat} {C g : Addr} {sp : Sp} {E : XK}
end
section
variable {K : PySem.W.Frag} {C : Addr} {E : XK} {Pre : List D → Prop} {Post : List D → D → Prop} {P : D → Prop} {fs : List (Str × D)} {y : D} {neg : Bool}
end
section
variable {F : Fm} {δ : List SD} {te : TE} {ta : TA} {P : D → Prop} {C : Addr} {m : Str} {Pre : List D → Prop} {Post : List D → D → Prop} {PX : List D → Addr → List (Str × D) → Prop} {QX : Addr → List (Str × D) → Prop}
end
/-! x is True, whatever x is -/
/-! x.m(k = v, ..) -/
section
variable {F : Fm} {δ : List SD} {te : TE} {tk : TA} {P : D → Prop} {C : Addr} {m : Str} {n : Nat} {gV : List V → List V → List V} {gD : List D → List D → List D} {Pre : List D → Prop} {Post : List D → D → Prop} {PX : List D → Addr → List (Str × D) → Prop} {QX : Addr → List (Str × D) → Prop}
end
end Pf

/-! CoreZ6: C.m(..), m a static method of the class at C. -/
namespace Pf
open PySem L2 PfL LamX PfT HandSPX PyProof.Rows ClX
/-- C.m is a static method: its record at p, its def at g -/
structure SMet (K : PySem.W.Frag) (C : Addr) (mc : Value) (m : Str) (p g : Addr) : Prop where
  at_ : PySem.W.findCls K (.ref C) mc m = some (.get (.builtin "staticmethod.__get__") (.ref p) .none (.ref C))
  rc : ∃ rest, PySem.W.recIn K p "staticmethod" = some (.ref g :: rest)
  kp : PySem.W.keepIn K (.ref g) = true
section
variable {X : Cx} {CX : CXT} {k n : Nat} {C p g : Addr} {fd : FuncData} {ps ks : List Str} {dvs : List V} {ds : List Value} {mc : Value} {sp : Sp} {E : XK} {o e : Expr} {es : List Expr} {kws : List Keyword} {m : Str} {pos apos : Pos} {ta : TE} {t tk : TA} {pl : Sem Bool} {g' : List Value → List Value → List Value} {gV : List V → List V → List V}
end
section
variable {F : Fm} {δ : List SD} {te : TE} {ta tk : TA} {P : D → Prop} {C : Addr} {n m : Nat} {gV : List V → List V → List V} {gD : List D → List D → List D} {Pre : List D → Prop} {Post : List D → D → Prop} {PX : List D → Addr → List (Str × D) → Prop} {QX : Addr → List (Str × D) → Prop}
end
/-! x | y and the like, of two instances of one class, by a def of its own -/
end Pf

/-! CoreW0: defs with *args that may raise; methods asked by a promise of their values alone. -/
namespace Pf
open PySem L2 PfL LamX PfT HandSPX PyProof.Rows
def starD (n : Nat) (ds : List D) : List D := ds.take n ++ [.tup (ds.drop n)]
def preS (n : Nat) (Pre : List D → Prop) : List D → Prop := fun ds => n ≤ ds.length ∧ ds.length ≤ 1000 ∧ Pre (starD n ds)
section
variable {P : Program} {w : World} {K : PySem.W.Frag} {mg : Str → Option Value} {base : Heap} {k n : Nat} {Pre : List D → Prop} {Post : List D → D → Prop} {PX : List D → Addr → List (Str × D) → Prop}
end
section
variable {F : Fm} {δ : List SD} {te ta tb : TE} {PX : List D → Prop}
/-- x + y of two lists: a new list -/
theorem en_cat {PL : List D → Prop} (h : Ev F ta δ fun x => Ev F tb δ fun y => ∃ xs ys, x = .lst xs ∧ y = .lst ys ∧ xs.length + ys.length ≤ 100000 ∧ PL (xs ++ ys)) : EvN F (tOp rCat ta tb) δ PL := fun M σ H Q c q =>
  h M σ H _ c fun v x H1 p1 c1 e1 r1 => p1 M σ H1 _ c1 fun w y H2 p2 c2 e2 r2 => by
    obtain ⟨xs, ys, rfl, rfl, hz, pl⟩ := p2
    have r1' := r1.mono (hd_step c1 e2)
    cases r1' with
    | @lst a vs _ h1 h2 =>
      cases r2 with
      | @lst b ws _ h3 h4 =>
        refine ⟨_, _, _, _, rfl, rfl, (hd_of h1).2, (hd_of h3).2, by rw [h2.length, h4.length]; exact sz_of hz, fun p hp => ?_⟩
        have hp0 : H p = none := by
          cases z : H p with
          | none => rfl
          | some o =>
            have := (e1.trans e2) p o (c2.nob hp) z
            rw [hp] at this
            cases this
        refine q p (vs ++ ws) (xs ++ ys) _ pl (c2.hide hp) hp0 (c2.h0 hp) (c2.nob hp) (c2.nown hp) ((e1.trans e2).trans (StepB.of (same_new hp))) upd_same ((h2.append h4).mono fun b u e => ?_)
        obtain ⟨m, h⟩ := hd_of e
        have n : b ≠ p := ne_of_none h hp
        exact hd_at (by rw [hid_ne n]; exact m) (by rw [upd_ne n]; exact h)
end
end Pf

/-! CoreW1: min of a tuple of ints, t * n from n = 1 on. -/
namespace Pf
open PySem PySem.Spec L2 PfL LamX PfT HandSPX PyProof.Rows
theorem pgUnl (K : PySem.W.Frag) {X : Cx} {pos : Pos} {es : List Expr} {k : Nat} {ts : TGs} {n : Nat} (hc : X.calm = true) (hh : PGs X es ts)
    (hn : (assignEach es X.env).length = n := by rfl) (hst : (assignEach es X.env).findIdx? (·.1) = none := by rfl) (h : X.K = K := by rfl) : PG X (.Tuple es k pos) (gUnl K n ts) := by subst h; exact pg_unl hc hh hn hst
theorem tg_unl {F : Fm} {δ : List SD} {gs : TGs} {n : Nat} {js : List Nat} {xs : List D} {Q : List SD → Prop} (hn : xs.length = n) (h : TgsD F gs js xs δ Q) : TgD F (gUnl F.K n gs) js (.lst xs) δ Q := fun M σ H v R c r q => by
  cases r with
  | lst h1 h2 => exact ⟨_, _, rfl, SqL.of (hd_of h1).2, by rw [h2.length, hn], h M σ H _ _ c h2 q⟩
end Pf

/-! CoreW2: an __init__ of data that may raise, with keywords and defaults; x not in a tuple of texts, x anything. -/
namespace Pf
open PySem PySem.Spec L2 PfL LamX PfT HandSPX PyProof.Rows
section
variable {K : PySem.W.Frag} {N : List Str} {vs : List V} {H : Hp} {Q : VK} {E : XK} {t : TS} {C : Addr} {Pre : List D → Prop} {Post : List D → List (Str × D) → Prop} {PX : List D → Addr → List (Str × D) → Prop}
end
section
variable {F : Fm} {δ : List SD} {ta tk : TA} {P : D → Prop} {C : Addr} {Pre : List D → Prop} {Post : List D → List (Str × D) → Prop} {PX : List D → Addr → List (Str × D) → Prop} {QX : Addr → List (Str × D) → Prop}
end
/-! x not in a tuple of texts -/
end Pf

/-! CoreW3: C.m(k = v, ..), m a static method. -/
namespace Pf
open PySem L2 PfL LamX PfT HandSPX PyProof.Rows ClX
end Pf

/-! CoreW4: defs beside the law that make lambdas: their tables, their promises. -/
namespace Pf
open PySem L2 PfL LamX PfT HandSPX PyProof.Rows ClX
theorem ev_lam2 {F : Fm} {δ : List SD} {Pd : D → Prop} {P : Addr} {q : Str} {params : Arguments} {body : Expr} {scope : Scope} {cells : List (Str × Addr)} (hm : (P, q) ∈ F.T) (hu : ∀ p ∈ F.T, p.1 = P → p = (P, q)) (hp : params = par0 ∨ params.defaults ≠ [])
    (h : ∀ f F' hs, LamIs f F' hs → F' = ⟨q, params, body, scope, cloFrom cells scope.names [], F'.c, F'.dV⟩ → Pd (.fn f hs [] [])) : Ev F (tMkL P q params body scope cells) δ Pd := fun M σ H Q c g => by
  obtain ⟨m0, tS, nx⟩ := c.bg.2 (P, q) hm
  refine ⟨tS, fun f F' H1 mk => ?_⟩
  obtain ⟨ps1, hP1, _⟩ := mk.tab
  have e : StepB F.mv H H1 := fun a o n z => mk.ext a o (fun y => n (.inr ⟨(P, q), hm, y.symm⟩)) z
  have hP : ∃ ps, H P = some (.tbl ps) := by obtain ⟨ps, z, _⟩ := tS; exact ⟨ps, z⟩
  have neP : ∀ {a xs}, H a = some (.lst xs) → a ≠ P := fun {a xs} z y => by
    obtain ⟨ps, w⟩ := hP
    rw [y, w] at z
    cases z
  have nx1 : NX M H1 := fun a φ m z => by
    obtain ⟨o, ho⟩ := c.al a m
    by_cases y : a = P
    · rw [y, hP1] at z
      cases z
    · rw [mk.ext a o y ho] at z
      cases z
      exact nx a φ m ho
  have bag : ∀ b, F.B = some b → F.M0 b = true ∧ BagAt H1 b F.C0 ∧ ∃ o, F.H0 F.C0 = some o := fun b z => by
    obtain ⟨g0, g1, g2⟩ := c.bg.1 b z
    obtain ⟨ns, k, z1, z2, z3, q1, q2, q3, q4⟩ := g1
    exact ⟨g0, ⟨ns, k, z1, z2, z3, mk.ext _ _ (neP q1) q1, q2, mk.ext _ _ (neP q3) q3, q4⟩, g2⟩
  have c1 : Ctx F M σ H1 δ := c.stepG e ⟨bag, fun r z => by
    by_cases y : r.1 = P
    · rw [hu r z y]
      exact ⟨m0, mk.tab, nx1⟩
    · obtain ⟨z1, z2, _⟩ := c.bg.2 r z
      refine ⟨z1, tabS_step z2 (fun ps w => mk.ext _ _ y w) (fun a w => mk.ext _ _ (fun e => ?_) w), nx1⟩
      obtain ⟨ps, w'⟩ := hP
      rw [e, w'] at w
      cases w⟩
  have mnew : ∀ {a}, H a = none → M a = false := fun {a} z => by
    cases y : M a with
    | false => rfl
    | true => obtain ⟨o, ho⟩ := c.al a y; rw [z] at ho; cases ho
  have mc : M F'.c = false := by
    cases y : M F'.c with
    | false => rfl
    | true => exact absurd mk.rdy.cd (nx1 _ _ y)
  rcases hp with hp | hp
  · have d0 : F'.dV = .none := mk.d0 (by rw [hp]; rfl)
    have hpar : F'.params = params := by rw [mk.eq]
    refine g (.ref f) (.fn f [(f, LamO f F'), (F'.c, CodeO F'.c F'.qual)] [] []) H1 (h f F' _ ⟨fun _ => d0, fun H2 hh => ⟨⟨hh (f, LamO f F') (by simp), hh (F'.c, CodeO F'.c F'.qual) (by simp), .inl d0⟩, fun n => absurd (hpar.trans hp) n⟩⟩ mk.eq) c1 e (.fn (fun p z => ?_) .nil)
    simp only [List.mem_cons, List.not_mem_nil, or_false] at z
    rcases z with rfl | rfl
    · exact ⟨hd_at (mnew mk.new) mk.rdy.fn, fun o u z => by have z : LamO f F' = .frz o u := z; unfold LamO at z; cases z⟩
    · exact ⟨hd_at mc mk.rdy.cd, fun o u z => by have z : CodeO F'.c F'.qual = .frz o u := z; unfold CodeO at z; cases z⟩
  · obtain ⟨t, v, dt, nt, ht⟩ := mk.d1 hp
    have hpar : F'.params = params := by rw [mk.eq]
    refine g (.ref f) (.fn f [(f, LamO f F'), (F'.c, CodeO F'.c F'.qual), (t, .tup [v])] [] []) H1 (h f F' _ ⟨fun y => absurd (by rw [← hpar, y]; rfl) hp, fun H2 hh => ⟨⟨hh (f, LamO f F') (by simp), hh (F'.c, CodeO F'.c F'.qual) (by simp), .inr ⟨t, v, dt, hh (t, .tup [v]) (by simp)⟩⟩, fun _ => ⟨t, v, dt, hh (t, .tup [v]) (by simp)⟩⟩⟩ mk.eq) c1 e (.fn (fun p z => ?_) .nil)
    simp only [List.mem_cons, List.not_mem_nil, or_false] at z
    rcases z with rfl | rfl | rfl
    · exact ⟨hd_at (mnew mk.new) mk.rdy.fn, fun o u z => by have z : LamO f F' = .frz o u := z; unfold LamO at z; cases z⟩
    · exact ⟨hd_at mc mk.rdy.cd, fun o u z => by have z : CodeO F'.c F'.qual = .frz o u := z; unfold CodeO at z; cases z⟩
    · exact ⟨hd_at (mnew nt) ht, fun o u z => by cases z⟩

/-! ### a def that makes lambdas, asked by a frame that knows its table -/
def spBT (K : PySem.W.Frag) (P : Addr) (q : Str) (Pre : List D → Prop) (Post : List D → D → Prop) : Sp := fun vs H Q _ => ∃ (M : Addr → Bool) (b c : Addr) (ws : List V) (ds : List D), vs = .ref b :: ws ∧ Al M H ∧ M b = true ∧ BagAt H b c ∧ M P = true ∧ NX M H ∧ TabS H P q ∧ RepL K (hd M H) ws ds ∧ Pre ds ∧
  ∀ v d H', Post ds d → StepB (fun a => a = b ∨ a = P) H H' → BagAt H' b c → TabS H' P q → Rep K (hd M H') v d → Q v H'
theorem spBT_len {K : PySem.W.Frag} {P : Addr} {q : Str} {Pre : List D → Prop} {Post : List D → D → Prop} {n : Nat} (h : ∀ ds, Pre ds → ds.length + 1 = n) : ∀ vs H Q E, spBT K P q Pre Post vs H Q E → vs.length = n := fun vs H Q E ⟨M, b, c, ws, ds, e, _, _, _, _, _, _, r, p, _⟩ => by
  subst e
  rw [List.length_cons, r.length, h ds p]
theorem tab_at {H : Hp} {P : Addr} {q : Str} (t : TabS H P q) : ∃ ps, H P = some (.tbl ps) := by
  obtain ⟨ps, h, _⟩ := t
  exact ⟨ps, h⟩
/-- what a call may have changed: the bag and one table -/
theorem ctx_tab {F : Fm} {M : Addr → Bool} {σ : L2.St} {H H' : Hp} {δ : List SD} {P : Addr} {q : Str} (c : Ctx F M σ H δ) (hm : (P, q) ∈ F.T) (hu : ∀ p ∈ F.T, p.1 = P → p = (P, q)) (s : StepB (fun a => F.B = some a ∨ a = P) H H') (ba : ∀ b, F.B = some b → BagAt H' b F.C0) (t : TabS H' P q) : StepB F.mv H H' ∧ Ctx F M σ H' δ := by
  have s' : StepB F.mv H H' := fun a o n h => s a o (fun z => n (z.elim .inl fun z => .inr ⟨(P, q), hm, z.symm⟩)) h
  obtain ⟨_, tS, nx⟩ := c.bg.2 (P, q) hm
  obtain ⟨ps0, h0⟩ := tab_at tS
  obtain ⟨ps1, h1⟩ := tab_at t
  have bg3 : ∀ b, F.B = some b → ∃ o, H b = some (.lst o) := fun b z => by
    obtain ⟨_, ⟨_, _, _, _, _, g3, _⟩, _⟩ := c.bg.1 b z
    exact ⟨_, g3⟩
  have nx1 : NX M H' := fun a φ m z => by
    obtain ⟨o, ho⟩ := c.al a m
    by_cases y : a = P
    · rw [y, h1] at z
      cases z
    · by_cases yb : F.B = some a
      · obtain ⟨_, _, _, _, _, g3, _⟩ := ba a yb
        rw [g3] at z
        cases z
      · rw [s a o (fun w => w.elim yb y) ho] at z
        cases z
        exact nx a φ m ho
  refine ⟨s', c.stepG s' ⟨fun b z => ?_, fun r z => ?_⟩⟩
  · obtain ⟨g0, _, g2⟩ := c.bg.1 b z
    exact ⟨g0, ba b z, g2⟩
  · by_cases y : r.1 = P
    · rw [hu r z y]
      exact ⟨(c.bg.2 (P, q) hm).1, t, nx1⟩
    · obtain ⟨z1, z2, _⟩ := c.bg.2 r z
      obtain ⟨psr, hr⟩ := tab_at z2
      refine ⟨z1, tabS_step z2 (fun ps w => s _ _ (fun v => ?_) w) (fun a w => s _ _ (fun v => ?_) w), nx1⟩
      · rcases v with v | v
        · obtain ⟨o, ho⟩ := bg3 _ v
          rw [ho] at hr
          cases hr
        · exact y v
      · rcases v with v | v
        · obtain ⟨o, ho⟩ := bg3 _ v
          rw [ho] at w
          cases w
        · rw [v, h0] at w
          cases w
section
variable {F : Fm} {δ : List SD} {ta : TA} {Pd : D → Prop} {Pre : List D → Prop} {Post : List D → D → Prop} {E : XK} {P : Addr} {q : Str}
theorem ev_callBT {i : Nat} {b : Addr} (hb : F.B = some b) (hi : δ[i]? = some .bag) (hm : (P, q) ∈ F.T) (hu : ∀ p ∈ F.T, p.1 = P → p = (P, q)) (h : EvA F ta δ fun ds => Pre ds ∧ ∀ d, Post ds d → Pd d) : Ev F (tCall (spBT F.K P q Pre Post) [] E (tCons (tVar i) ta)) δ Pd := fun M σ H Q c g => by
  obtain ⟨s, h1, b', h2, h3⟩ := c.sl i _ hi
  subst h3
  rw [hb] at h2
  cases h2
  refine ⟨_, h1, ?_⟩
  refine h M σ H _ c fun vs ds H1 p c1 e1 r => ?_
  show spBT F.K P q Pre Post (V.ref b :: vs ++ []) H1 Q E
  rw [List.append_nil]
  obtain ⟨m0, tS, nx⟩ := c1.bg.2 (P, q) hm
  obtain ⟨g0, g1, g2⟩ := c1.bg.1 b hb
  refine ⟨M, b, F.C0, vs, ds, rfl, c1.al, c1.m0 b g0, g1, c1.m0 P m0, nx, tS, r, p.1, fun v d H2 pd s ba t r2 => ?_⟩
  obtain ⟨s', c2⟩ := ctx_tab c1 hm hu (fun a o n h => s a o (fun z => n (z.elim (fun z => .inl (by rw [hb, z])) .inr)) h) (fun b' z => by
    rw [hb] at z
    cases z
    exact ba) t
  exact g v d H2 (p.2 d pd) c2 (e1.trans s') r2
end
section
variable {K : PySem.W.Frag} {N : List Str} {vs : List V} {H : Hp} {Q : VK} {E : XK} {t : TS} {Pre : List D → Prop} {Post : List D → D → Prop} {P : Addr} {q : Str}
theorem enterBT (hs : spBT K P q Pre Post vs H Q E) (hb : ∀ (M : Addr → Bool) (b c : Addr) (ds : List D), Pre ds → ds.length + 1 = vs.length → Do ⟨K, some b, M, H, E, c, [(P, q)]⟩ t (slotsB N ds) { nx := fun _ => Post ds .non, rt := Post ds }) :
    t { nx := fun _ H' => Q .non H', rt := Q } (L2.start N vs) H := by
  obtain ⟨M, b, cc, ws, ds, rfl, al, mb, ba, mP, nx, tS, r, pre, g⟩ := hs
  have hl := r.length
  have hc : ∃ o, H cc = some o := by
    obtain ⟨ns, i, z, s, t, _, _, h3, _⟩ := ba
    exact ⟨_, h3⟩
  have c : Ctx ⟨K, some b, M, H, E, cc, [(P, q)]⟩ M (L2.start N (.ref b :: ws)) H (slotsB N ds) := by
    refine ⟨al, al, fun _ h => h, StepB.refl _ _, ⟨fun b z => ?_, fun a h => ?_⟩, ?_, fun i x h => ?_, fun i j p es fs h1 h2 => ?_, fun i p es h => ?_⟩
    · cases z
      exact ⟨mb, ba, hc⟩
    · rw [List.mem_singleton.mp h]
      exact ⟨mP, tS, nx⟩
    · unfold L2.start slotsB
      simp only [List.length_append, List.length_cons, List.length_map, List.length_replicate, hl]
      omega
    · unfold L2.start
      unfold slotsB at h
      cases i with
      | zero =>
        have e : SD.bag = x := by simpa using h
        subst e
        exact ⟨_, rfl, b, rfl, rfl⟩
      | succ i =>
        have h' : (ds.map SD.dat ++ List.replicate (N.length - (ds.length + 1)) .un)[i]? = some x := by simpa using h
        rw [List.length_cons, hl]
        exact sl_base rfl _ r i x h'
    · unfold slotsB at h1
      cases i with
      | zero => cases (show SD.bag = SD.own p es by simpa using h1)
      | succ i => exact absurd (show (ds.map SD.dat ++ List.replicate (N.length - (ds.length + 1)) .un)[i]? = some (.own p es) by simpa using h1) no_own
    · unfold slotsB at h
      cases i with
      | zero => cases (show SD.bag = SD.own p es by simpa using h)
      | succ i => exact absurd (show (ds.map SD.dat ++ List.replicate (N.length - (ds.length + 1)) .un)[i]? = some (.own p es) by simpa using h) no_own
  have mv : ∀ {a}, ¬ (a = b ∨ a = P) → ¬ Fm.mv ⟨K, some b, M, H, E, cc, [(P, q)]⟩ a := fun n z => by
    rcases z with z | ⟨p, z, e⟩
    · exact n (.inl (Option.some.inj z).symm)
    · rw [List.mem_singleton.mp z] at e
      exact n (.inr e.symm)
  refine hb M b cc ds pre (by rw [List.length_cons, hl]) M _ H _ c (fun M' σ' H' δ' p c' s => ?_) (fun v d M' σ' H' δ' p c' s r' => ?_) (fun _ _ _ _ p => p.elim) (fun _ _ _ _ p => p.elim)
  · exact g _ _ H' p (fun a o n h => c'.fr a o (mv n) h) (c'.bg.1 b rfl).2.1 (c'.bg.2 (P, q) (by simp)).2.1 .non
  · exact g v d H' p (fun a o n h => c'.fr a o (mv n) h) (c'.bg.1 b rfl).2.1 (c'.bg.2 (P, q) (by simp)).2.1 (r'.mono (same_hd_le fun a h => c'.m0 a h))
end
/-! ### the law's frame, with more than one table -/
def spLawTs (K : PySem.W.Frag) (Ps : List Addr) : Sp := fun vs H Q _ => ∃ (a : Addr) (ns : List Int), vs = [.ref a] ∧ SqL K H a (ns.map V.int) ∧ ns.length ≤ 63 ∧ (∀ P ∈ Ps, H P = some (.tbl #[])) ∧ ∀ H', Q (.bl true) H'
theorem lawDoTs {K : PySem.W.Frag} {H1 : Hp} {b c : Addr} {Ts : List (Addr × Str)} {t : TS} {Q : VK} {σ : L2.St} {δ : List SD} (ba : BagAt H1 b c) (tS : ∀ p ∈ Ts, LamX.TabS H1 p.1 p.2) (hl : σ.length = δ.length) (h1 : σ[1]? = some (some (.ref b))) (hδ : ∀ i x, δ[i]? = some x → x = .un ∨ (i = 1 ∧ x = .bag))
    (hb : ∀ (M0 : Addr → Bool) (E : XK), Do ⟨K, some b, M0, H1, E, c, Ts⟩ t δ { nx := fun _ => False, rt := fun d => d = .bl true }) (qq : ∀ H', Q (.bl true) H') : t { nx := fun _ H' => Q .non H', rt := Q } σ H1 := by
  have hc : ∃ o, H1 c = some o := by
    obtain ⟨ns, i, z, s, t, _, _, h3, _⟩ := ba
    exact ⟨_, h3⟩
  have at_ : ∀ a, (decide (a = b) || decide (a ∈ Ts.map Prod.fst)) = true → a = b ∨ ∃ p ∈ Ts, p.1 = a := fun a h => by
    simp only [Bool.or_eq_true, decide_eq_true_eq, List.mem_map] at h
    exact h
  have al : ∀ a, (decide (a = b) || decide (a ∈ Ts.map Prod.fst)) = true → ∃ o, H1 a = some o := fun a h => by
    rcases at_ a h with rfl | ⟨p, hp, rfl⟩
    · exact ba.at
    · obtain ⟨ps, h⟩ := tab_at (tS p hp)
      exact ⟨_, h⟩
  have nx : NX (fun a => decide (a = b) || decide (a ∈ Ts.map Prod.fst)) H1 := fun a φ m z => by
    rcases at_ a m with rfl | ⟨p, hp, rfl⟩
    · obtain ⟨_, _, _, _, _, h3, _⟩ := ba
      rw [z] at h3
      cases h3
    · obtain ⟨ps, h⟩ := tab_at (tS p hp)
      rw [z] at h
      cases h
  have cx : Ctx ⟨K, some b, fun a => decide (a = b) || decide (a ∈ Ts.map Prod.fst), H1, fun _ _ _ => True, c, Ts⟩ (fun a => decide (a = b) || decide (a ∈ Ts.map Prod.fst)) σ H1 δ := by
    refine ⟨al, al, fun _ h => h, StepB.refl _ _, ⟨fun b' z => ?_, fun p h => ?_⟩, hl, fun i x hx => ?_, fun i j p ds es h1 h2 => ?_, fun i p ds h => ?_⟩
    · cases z
      exact ⟨by simp, ba, hc⟩
    · exact ⟨by
        simp only [Bool.or_eq_true, decide_eq_true_eq, List.mem_map]
        exact .inr ⟨p, h, rfl⟩, tS p h, nx⟩
    · have hi : i < σ.length := by
        have := (List.getElem?_eq_some_iff.mp hx).1
        omega
      rcases hδ i x hx with rfl | ⟨rfl, rfl⟩
      · exact ⟨σ[i], by simp [hi], trivial⟩
      · exact ⟨_, h1, b, rfl, rfl⟩
    · rcases hδ i _ h1 with z | ⟨_, z⟩ <;> cases z
    · rcases hδ i _ h with z | ⟨_, z⟩ <;> cases z
  refine hb _ _ _ σ H1 _ cx (fun _ _ _ _ p => p.elim) (fun v d M' σ' H' δ' p _ _ r => ?_) (fun _ _ _ _ p => p.elim) (fun _ _ _ _ p => p.elim)
  have e : d = .bl true := p
  subst e
  cases r
  exact qq H'
/-- as walk_ofOwn, with what is known of the tables of further defs -/
theorem walk_ofOwns {l : PySem.W.OpenLaw} {n k : Nat} {q : Program} {loose : List Str} {XP : (Str → Option Value) → Heap → Prop} {YP : World → Heap → Prop} {d : DefRec} {K : Params → PySem.W.Frag} {CX : World → CXT} {x : Str} (nms : List Str)
    (hn : l.most = some n) (hn2 : n ≤ sizeLine) (hdf : d.params.defaults = []) (hr : Room k callerA) (hrec : ∀ m ∈ nms, ((recsOf q).any fun e => e.name == m) = true) (hY : ∀ (w : World) (h : Heap), YP w h → (K w.params).In h)
    (F : ∀ (w : World) (mg : Str → Option Value) (fa : Addr) (h : Heap), YP w h → (K w.params).In h → h.Ns mainGlobals mg → mg d.name = some (.ref fa) → (∀ m ∈ nms, ∀ f, mg m = some (.ref f) → OwnTab (K w.params) f h) → LawAtS l w (K w.params) (CX w) k n x mg fa h)
    (hCX : ∀ (w : World) (H : Hp) (s : Shared) (e : Value) (s' : Shared), CX w [] H s (fun _ _ _ => False) e s' → False) :
    PySem.W.WalkO q loose XP YP l.row.toRowW d [] (fun f vs => PySem.call f vs) := by
  refine Att.attach_callB hn hdf fun w s₀ s₁ mg mb fa o pm cd doc a vs ns G Y ho hd hcd hmg hobj hints hlen hbits hg => ?_
  have KX := hY w _ Y
  have own : ∀ m ∈ nms, ∀ f, mg m = some (.ref f) → OwnTab (K w.params) f s₁.heap := fun m hmm f hf c P o1 fd1 e dd vs1 sl k1 k2 k3 k4 k5 => by
    obtain ⟨dL, hm, hn1⟩ := List.any_eq_true.mp (hrec m hmm)
    have hn2 : dL.name = m := beq_iff_eq.mp hn1
    obtain ⟨a', o', fd', c', P', h1, h2, h3, h4, h5, h6⟩ := G.T.tab dL hm
    rw [hn2, hf] at h1
    cases h1
    have g1 := KX _ _ k1
    rw [g1] at h2
    cases h2
    rw [k2] at h3
    cases h3
    rw [k3] at h4
    cases h4
    obtain ⟨⟨oc, vc, e1, _, e3, e4⟩, hP⟩ := h6
    have g2 := KX _ _ k4
    rw [g2] at e1
    cases e1
    cases e3
    rw [k5] at e4
    cases e4
    exact hP
  obtain ⟨fd, cs, sp, hT, nT, C, hb, hsp, hF⟩ := F w mg fa _ Y KX G.T.g hmg own
  exact law_callTs KX G.T.g G.T.b G.T.builtins G.T.nolimit hg hT nT C G.T.bmain hobj hints (Nat.le_trans hlen hn2) hr hF hb (fun H hH hS => hsp H a ns hlen hbits hH hS) fun H e s' => hCX w H s₁ e s'
end Pf

/-! CoreW5: index in a tuple of ints (the call alone: finding the method wants dict = none, which HO.tup does not tell), min and max of two ints. -/
namespace Pf
open PySem PySem.Spec L2 PfL LamX PfT HandSPX PyProof.Rows
/-! min(a, b), max(a, b) of two ints -/
section
variable {P : D → Prop} {K : PySem.W.Frag}
end
end Pf

/-! CoreW6: a dict comprehension. -/
namespace Pf
open PySem PySem.Spec L2 PfL LamX PfT HandSPX PyProof.Rows
section
variable {J : _} {n : Nat} {G : Hp → Prop} {Y : _}
end
section
variable {F : Fm} {δ : List SD} {tk tv : TE} {tt : TT} {P : D → Prop} {PX : List D → Prop} {g : TG} {wi : TI}
end
end Pf

/-! CoreW7: pairs of a number and a text, sorted. -/
namespace Pf
open PySem PySem.Spec L2 PfL LamX PfT HandSPX PyProof.Rows
def gD (p : Int × Str) : D := .tup [.int p.1, .str p.2]
end Pf

/-! CoreW8: a comprehension over the items of a dict of one's own (locked meanwhile). -/
namespace Pf
open PySem PySem.Spec L2 PfL LamX PfT HandSPX
theorem RepK.getV {K : PySem.W.Frag} {H : Hp} : ∀ {vs : List (Key × V)} {ds : List (Key × D)} {n : Nat} {k : Key} {w : V}, RepK K H vs ds → vs[n]? = some (k, w) → ∃ d, ds[n]? = some (k, d) ∧ Rep K H w d
  | _, _, _, _, _, .nil, h => by simp at h
  | _, _, 0, k, w, .cons r rs, h => by
    simp only [List.getElem?_cons_zero, Option.some.injEq, Prod.mk.injEq] at h
    obtain ⟨rfl, rfl⟩ := h
    exact ⟨_, rfl, r⟩
  | _, _, n + 1, k, w, .cons r rs, h => by
    obtain ⟨d, h1, h2⟩ := RepK.getV rs (n := n) (by simpa using h)
    exact ⟨d, by simpa using h1, h2⟩
section
variable {F : Fm} {M : Addr → Bool} {σ : L2.St} {H : Hp} {δ : List SD}
end
end Pf

/-! CoreW9: len of a dict; a tuple gone through where a list may stand. -/
namespace Pf
open PySem PySem.Spec L2 PfL LamX PfT HandSPX
end Pf

/-! CoreW10: d[k] of a dict of one's own. -/
namespace Pf
open PySem PySem.Spec L2 PfL LamX PfT HandSPX
end Pf

/-! CoreW11: a, b = x, a new list, by way of the tuple (where a name is a cell). -/
namespace Pf
open PySem PySem.Spec L2 PfL LamX PfT HandSPX
end Pf

/-! CoreW12: a new list of new lists, read for a while, one of its items then changed. -/
namespace Pf
open PySem PySem.Spec L2 PfL LamX PfT HandSPX
/-- the frame that begins behind: what stands then is its own heap -/
def Fm.at (F : Fm) (M : Addr → Bool) (H : Hp) : Fm := ⟨F.K, F.B, M, H, F.E, F.C0, F.T⟩
/-- what is known of a list of new lists that the frame F makes, the later frame being F.at M2 H2 -/
structure Gh (F : Fm) (M2 : Addr → Bool) (H2 : Hp) (p : Addr) (qs : List (Addr × List D)) : Prop where
  al0 : ∀ a, F.M0 a = true → ∃ o, F.H0 a = some o
  m0 : ∀ a, F.M0 a = true → M2 a = true
  fr : StepB F.mv F.H0 H2
  bg : (∀ b, F.B = some b → F.M0 b = true ∧ ∃ o, F.H0 F.C0 = some o) ∧ ∀ t ∈ F.T, F.M0 t.1 = true
  nw : ∀ a ∈ p :: qs.map Prod.fst, M2 a = false ∧ F.H0 a = none ∧ ¬ F.mv a
  nd : (p :: qs.map Prod.fst).Nodup
def okS : SD → Bool
  | .un => true
  | .dat _ => true
  | .bag => true
  | .own _ _ => true
  | _ => false
section
variable {F : Fm} {M2 M : Addr → Bool} {H2 H : Hp} {σ : L2.St} {δ δ' : List SD} {p : Addr} {qs : List (Addr × List D)}
/-- back to the first frame -/
theorem Gh.back (g : Gh F M2 H2 p qs) (c : Ctx (F.at M2 H2) M σ H δ) (hl : δ'.length = δ.length) (hs : ∀ (i : Nat) (x : SD), δ'[i]? = some x → x = .un ∨ (okS x = true ∧ δ[i]? = some x)) : Ctx F M σ H δ' := by
  have fr2 : StepB F.mv H2 H := c.fr
  have h0 : ∀ a, H2 a = none → F.H0 a = none ∨ F.mv a := fun a h => by
    by_cases m : F.mv a
    · exact .inr m
    · left
      cases z : F.H0 a with
      | none => rfl
      | some o =>
        have := g.fr a o m z
        rw [h] at this
        cases this
  refine ⟨c.al, g.al0, fun a m => c.m0 a (g.m0 a m), g.fr.trans fr2, ⟨fun b z => ⟨(g.bg.1 b z).1, (c.bg.1 b z).2.1, (g.bg.1 b z).2⟩, fun t ht => ⟨g.bg.2 t ht, (c.bg.2 t ht).2⟩⟩, by rw [c.ln, hl], fun i x hx => ?_, fun i j q ds es h1 h2 => ?_, fun i q ds h => ?_⟩
  · rcases hs i x hx with rfl | ⟨ok, h⟩
    · have : i < σ.length := by
        have := (List.getElem?_eq_some_iff.mp hx).1
        rw [c.ln, ← hl]
        exact this
      exact ⟨σ[i], by simp [this], trivial⟩
    · obtain ⟨s, h1, h2⟩ := c.sl i x h
      refine ⟨s, h1, ?_⟩
      cases x with
      | un => trivial
      | dat d => exact h2
      | own q ds => exact h2
      | bag => exact h2
      | sq ds => cases ok
      | sl ds => cases ok
      | oll q rs => cases ok
  · rcases hs i _ h1 with z | ⟨_, h1⟩
    · cases z
    rcases hs j _ h2 with z | ⟨_, h2⟩
    · cases z
    exact c.dj i j q ds es h1 h2
  · rcases hs i _ h with z | ⟨_, h⟩
    · cases z
    obtain ⟨h1, h2⟩ := c.oh i q ds h
    refine ⟨?_, h2⟩
    rcases h0 q h1 with z | z
    · exact z
    · exact absurd z h2
end
section
variable {F : Fm} {M2 : Addr → Bool} {H2 : Hp} {δ : List SD} {p : Addr} {qs : List (Addr × List D)} {t u : TS} {R : PD} {te : TE} {P : D → Prop}
end
/-! ### new lists, side by side -/
/-- what is hidden behind is what was, and the new ones -/
structure News (F : Fm) (M : Addr → Bool) (H : Hp) (δ : List SD) (M' : Addr → Bool) (H' : Hp) (qs : List (Addr × List D)) : Prop where
  le : ∀ a, M a = true → M' a = true
  ge : ∀ a, M' a = true → M a = true ∨ a ∈ qs.map Prod.fst
  nw : ∀ q ∈ qs, M' q.1 = true ∧ H q.1 = none ∧ F.H0 q.1 = none ∧ ¬ F.mv q.1 ∧ ∃ us, H' q.1 = some (.lst us) ∧ RepL F.K (hd M' H') us q.2
  nd : (qs.map Prod.fst).Nodup
section
variable {F : Fm} {δ : List SD} {te : TE} {ta tr : TA} {u : TS} {R : PD} {P : List (List D) → Prop}
end
end Pf

/-! CoreW13: texts taken apart and put together; a starred display, a starred target; pop. -/
namespace Pf
open PySem PySem.Spec L2 PfL LamX PfT HandSPX PyProof.Rows StX
/-! str of a number or a text; int of a text -/
def rStrA : List V → Hp → VK → Prop := fun xs H Q => (∃ i, xs = [V.int i] ∧ i.natAbs.log2 < 1920 ∧ Q (.str (toString i)) H) ∨ (∃ a, xs = [V.str a] ∧ Q (.str a) H)
theorem callStrA {X : Cx} : CallR X (.type "str") rStrA := by
  intro pins s σ H xs us Q I r h
  rcases h with h | h
  · exact call_str_int pins s σ H xs us Q I r h
  · exact SkE.call_str_str pins s σ H xs us Q I r h
def rIntT : List V → Hp → VK → Prop := fun xs H Q => ∃ a n, xs = [V.str a] ∧ PySem.intText? a = some n ∧ a.length ≤ 640 ∧ Q (.int n) H
theorem callIntT {X : Cx} : CallR X (.type "int") rIntT := call_int_str
section
variable {K : PySem.W.Frag} {P : D → Prop}
theorem cd_strAI {i : Int} (hz : i.natAbs.log2 < 1920) (p : P (.str (toString i))) : CallD K rStrA [.int i] P := fun M H vs Q al r q => by
  cases r with
  | cons r1 r =>
    cases r
    cases r1
    exact .inl ⟨i, rfl, hz, q _ _ H p (Same.refl H) (.str _)⟩
theorem cd_intT {a : Str} {n : Int} (hn : PySem.intText? a = some n) (hl : a.length ≤ 640) (p : P (.int n)) : CallD K rIntT [.str a] P := fun M H vs Q al r q => by
  cases r with
  | cons r1 r =>
    cases r
    cases r1
    exact ⟨a, n, rfl, hn, hl, q _ _ H p (Same.refl H) (.int _)⟩
end
/-! methods of texts -/
def rSplit : V → List V → Hp → VK → Prop := fun x xs H Q => ∃ a b, x = .str a ∧ xs = [.str b] ∧ (b.length == 0) = false ∧ a.length + 2 ≤ sizeLine ∧ rNewStrs (Txt.split a b) H Q
theorem mtSplit {X : Cx} : MtR X "str.split" rSplit := mt_split
def rStarts : V → List V → Hp → VK → Prop := fun x xs H Q => ∃ a b, x = .str a ∧ xs = [.str b] ∧ Q (.bl (Txt.startswith a b)) H
theorem mtStarts {X : Cx} : MtR X "str.startswith" rStarts := mt_startswith
theorem repL_txs {K : PySem.W.Frag} {H : Hp} : ∀ zs : List Str, RepL K H (zs.map V.str) (txsD zs)
  | [] => .nil
  | z :: zs => .cons (.str z) (repL_txs zs)
section
variable {F : Fm} {δ : List SD} {te tb : TE} {tr : TA} {P : D → Prop} {PL : List D → Prop} {PA : List D → Prop} {R : PD}
theorem en_split (h : Ev F te δ fun x => ∃ a, x = .str a ∧ a.length ≤ 100000 ∧ Ev F tb δ fun y => ∃ b, y = .str b ∧ (b.length == 0) = false ∧ PL (txsD (Txt.split a b))) : EvN F (tBM F.K "str" rSplit te (tCons tb tNil)) δ PL := fun M σ H Q c q =>
  h M σ H _ c fun v x H1 p1 c1 e1 r1 => by
    obtain ⟨a, rfl, ha, p1⟩ := p1
    cases r1
    refine ⟨rfl, ?_⟩
    refine p1 M σ H1 _ c1 fun w y H2 p2 c2 e2 r2 => ?_
    obtain ⟨b, rfl, hb, p2⟩ := p2
    cases r2
    refine ⟨a, b, rfl, rfl, hb, by have : (100002 : Nat) ≤ sizeLine := by decide
                                   omega, fun p hp => ?_⟩
    have hp0 : H p = none := by
      cases z : H p with
      | none => rfl
      | some o =>
        have := (e1.trans e2) p o (c2.nob hp) z
        rw [hp] at this
        cases this
    exact q p _ _ _ p2 (c2.hide hp) hp0 (c2.h0 hp) (c2.nob hp) (c2.nown hp) ((e1.trans e2).trans (StepB.of (same_new hp))) upd_same (repL_txs _)
theorem ev_starts (h : Ev F te δ fun x => ∃ a, x = .str a ∧ Ev F tb δ fun y => ∃ b, y = .str b ∧ P (.bl (Txt.startswith a b))) : Ev F (tBM F.K "str" rStarts te (tCons tb tNil)) δ P := fun M σ H Q c q =>
  h M σ H _ c fun v x H1 p1 c1 e1 r1 => by
    obtain ⟨a, rfl, p1⟩ := p1
    cases r1
    refine ⟨rfl, ?_⟩
    refine p1 M σ H1 _ c1 fun w y H2 p2 c2 e2 r2 => ?_
    obtain ⟨b, rfl, p2⟩ := p2
    cases r2
    exact ⟨a, b, rfl, rfl, q _ _ H2 p2 c2 (e1.trans e2) (.bl _)⟩
/-- y = xs.pop() -/
theorem do_popSet {i j : Nat} {p : Addr} {ds : List D} {x : D} (hi : δ[i]? = some (.own p (.lst (ds ++ [x])))) (h : R.nx ((δ.set i (.own p (.lst ds))).set j (.dat x))) : Do F (tAsg (tBM0 F.K "list" rPop (tVar i)) (gName j)) δ R := fun M σ H E c a b k d => by
  obtain ⟨y, h1, hy, m, ho, h3, r0⟩ := c.sl i _ hi
  subst hy
  cases r0 with
  | @lst ws _ r0 =>
  obtain ⟨us, v, rfl, ru, rv⟩ : ∃ us v, ws = us ++ [v] ∧ RepL F.K (hd M H) us ds ∧ Rep F.K (hd M H) v x := by
    obtain ⟨us, v, zs, e, r1, r2, r3⟩ := repL_split (ds := ds) (l := x) (gs := []) r0
    cases r3
    exact ⟨us, v, e, r1, r2⟩
  refine ⟨_, h1, .inl ⟨rfl, _, SqL.of h3⟩, p, _, v, rfl, rfl, h3, by simp, ?_⟩
  rw [List.dropLast_concat]
  have c2 := c.put hi (.lst ru : RepO F.K (hd M H) (.lst us) (.lst ds))
  have e : hd M (upd H p (.lst us)) = hd M H := hd_upd m
  refine a M _ _ _ h (c2.set j (by rw [e]; exact rv)) ?_
  rw [e]
  exact Same.refl _
end
/-! a, b, *c = a list -/
def gUnlS (K : PySem.W.Frag) (n : Nat) (t : TGs) : TG := fun v σ H Q => ∃ a xs, v = .ref a ∧ SqL K H a xs ∧ n ≤ xs.length ∧ xs.length ≤ 16384 ∧ ∀ p, H p = none → t (xs.take n ++ [.ref p]) σ (upd H p (.lst (xs.drop n))) Q
theorem pgs_star {X : Cx} {p : Pos} {e : Expr} {es : List Expr} {t : TG} {u : TGs} (h1 : PG X e t) (h2 : PGs X es u)
    (hs : (assignEach (.Starred e p :: es) X.env).map (·.2) = assign e X.env :: (assignEach es X.env).map (·.2) := by rfl) : PGs X (.Starred e p :: es) (gCons t u) := by
  refine ⟨fun pins s σ H vs us Q I r h => ?_⟩
  obtain ⟨v, vr, e1, h⟩ := h
  subst e1
  cases r with
  | cons r rr =>
    rw [hs]
    refine assignInOrder_cons (thn (h1.run pins s σ H _ _ _ I r h) fun _ s1 ⟨σ1, H1, I1, q1⟩ => ?_)
    exact h2.run pins s1 σ1 H1 _ _ Q I1 rr q1
theorem vals_cut : ∀ {xs : List V} {its : List Value}, Vals xs its → ∀ n, Vals (xs.take n) (its.take n) ∧ Vals (xs.drop n) (its.drop n)
  | _, _, rv, 0 => ⟨.nil, rv⟩
  | _, _, .nil, n + 1 => ⟨.nil, .nil⟩
  | _, _, .cons r rs, n + 1 => ⟨.cons r (vals_cut rs n).1, (vals_cut rs n).2⟩
theorem unpack_starL {X : Cx} {pins : List (Addr × Obj)} {σ : L2.St} {H : Hp} {s : Shared} {l : Addr} {xs : List V} {n : Nat} {Q : List Value → Shared → Prop} (hc : X.calm = true) (I : Inv X pins σ H s) (hq : SqL X.K H l xs) (hn : n ≤ xs.length) (hz : xs.length ≤ 16384)
    (h : ∀ us s' p, H p = none → Inv X pins σ (upd H p (.lst (xs.drop n))) s' → Vals (xs.take n ++ [.ref p]) us → Q us s') : wpAny (model X.prog X.w) X.A (unpackItems (.ref l) (n + 1) (some n)) Q X.xe s := by
  obtain ⟨its, rv, pl, _⟩ := I.list hq
  have hl : s.heap.IsList l its.toArray := by
    obtain ⟨o, m, e, c, d, q⟩ := pl
    exact ⟨o, e, c, m, q⟩
  have hlen : its.length = xs.length := rv.length.symm
  have hh := I.ok.hd hc
  have hlt : l ≠ s.heap.objs.size := by obtain ⟨o, ho, _⟩ := hl; exact Nat.ne_of_lt (Heap.lt_size ho)
  have hsz : its.toArray.size = its.length := by simp
  unfold unpackItems
  refine wpAny_bind ?_
  unfold notIterableAtAll
  refine wpAny_bind (wpAny_specialOf hl.typeIs PySem.slot_list_iter.lookup ?_)
  refine wpAny_pure ?_
  simp only [Bool.false_eq_true, if_false]
  refine wpAny_bind (wpAny_holding (wpAny_pyIter_list hl ?_))
  refine wpAny_bind (wpAny_holding (PySem.W.kun_draw hlt n 0 _ _ ⟨_, Heap.get?_push_size _ rfl, rfl, rfl⟩ (hl.push _) (by omega) fun h₁ hit₁ hs₁ => ?_))
  have hl₁ : h₁.IsList l its.toArray := (hl.push _).extBut hs₁.extBut hlt
  rw [Nat.zero_add] at hit₁
  have hit₁' := hit₁
  obtain ⟨oi, hoi, _⟩ := hit₁'
  have hl₁' := hl₁
  obtain ⟨ol, hol, _⟩ := hl₁'
  rw [List.drop_zero]
  have hfl : (its.toArray.toList.take n).length = n := by rw [List.length_take, Array.length_toList]; omega
  rw [if_neg (show ¬ ((its.toArray.toList.take n).length < n) by rw [hfl]; omega)]
  refine wpAny_bind (wpAny_holding (PySem.W.kun_collect (s := { s with heap := h₁ }) (T := "list_iterator") (.inr (.inr (.inl rfl))) (Walks.list (A := X.A.in1) hh s.heap.objs.size l hlt its.toArray) (fun j u st => st.1.typeIs) (k := n) (by omega) ⟨hit₁, hl₁⟩ (Heap.lt_size hoi) (Heap.lt_size hol) (fun h₂ tk hk => ?_) (by rw [sizeLine_eq]; omega)))
  show wpAny _ _ (if (its.toArray.toList.drop n).length < n + 1 - 1 - n then _ else _) _ _ _
  rw [if_neg (by omega)]
  show wpAny _ _ (newList ((its.toArray.toList.drop n).take ((its.toArray.toList.drop n).length - (n + 1 - 1 - n))) >>= fun d => pure (its.toArray.toList.take n ++ [d] ++ (its.toArray.toList.drop n).drop ((its.toArray.toList.drop n).length - (n + 1 - 1 - n)))) _ _ _
  have e0 : (its.toArray.toList.drop n).length - (n + 1 - 1 - n) = (its.toArray.toList.drop n).length := by omega
  rw [e0, List.take_length, List.drop_length]
  have kk : ∀ b o, s.heap.get? b = some o → h₂.get? b = some o := fun b o e => hk b o (Nat.ne_of_lt (Heap.lt_size e)) (hs₁.extBut b o (Nat.ne_of_lt (Heap.lt_size e)) (Heap.get?_push_of_some _ e))
  have I2 : Inv X pins σ H { s with heap := h₂, toks := tk } := I.kept kk
  have hfr : H h₂.objs.size = none := I2.hok.fresh (Nat.le_refl _)
  refine wpAny_bind (wpAny_newList (wpAny_pure ?_) (by rw [List.length_drop, Array.length_toList, sizeLine_eq]; omega))
  have tk := vals_cut rv n
  rw [List.append_nil]
  refine h _ _ h₂.objs.size hfr (I2.laid (t' := _) (fun b u e => Heap.get?_push_of_some _ e) (Nat.le_refl _) ?_) (tk.1.append (.cons rfl .nil))
  exact ⟨by rw [List.length_drop, sizeLine_eq]; omega, its.drop n, 0, tk.2, Heap.get?_push_size _ rfl⟩
theorem pg_unlS {X : Cx} {pos : Pos} {es : List Expr} {k : Nat} {t : TGs} {n : Nat} (K : PySem.W.Frag) (hc : X.calm = true) (h : PGs X es t)
    (hn : (assignEach es X.env).length = n + 1 := by rfl) (hst : (assignEach es X.env).findIdx? (·.1) = some n := by rfl) (hK : X.K = K := by rfl) : PG X (.Tuple es k pos) (gUnlS K n t) := by
  subst hK
  refine ⟨fun pins s σ H v u Q I r hw => ?_⟩
  obtain ⟨a, xs, e1, hq, hl, hz, hw⟩ := hw
  subst e1
  cases r
  rw [PyProof.Rows.assign_Tuple]
  refine wpAny_bind (wpAny_standAt ?_)
  unfold unpack
  rw [hn, hst]
  exact wpAny_bind (wpAny_holding (unpack_starL hc I hq hl hz fun us s' p hp I' rv => h.run pins s' σ _ _ us Q I' rv (hw p hp)))
theorem tg_unlS {F : Fm} {δ : List SD} {gs : TGs} {n : Nat} {js : List Nat} {xs : List D} {Q : List SD → Prop} (hn : n ≤ xs.length) (hz : xs.length ≤ 16384) (h : TgsD F gs js (xs.take n ++ [.lst (xs.drop n)]) δ Q) : TgD F (gUnlS F.K n gs) js (.lst xs) δ Q := fun M σ H v R c r q => by
  cases r with
  | @lst a vs _ h1 h2 =>
    refine ⟨a, vs, rfl, SqL.of (hd_of h1).2, by rw [h2.length]; exact hn, by rw [h2.length]; exact hz, fun p hp => ?_⟩
    have s := same_new (o := .lst (vs.drop n)) hp
    have tk : RepL F.K (hd M H) (vs.take n) (xs.take n) ∧ RepL F.K (hd M H) (vs.drop n) (xs.drop n) := by
      clear hn hz h s h1
      induction n generalizing vs xs with
      | zero => exact ⟨.nil, h2⟩
      | succ n ih =>
        cases h2 with
        | nil => exact ⟨.nil, .nil⟩
        | cons r rs =>
          obtain ⟨h3, h4⟩ := ih rs
          exact ⟨.cons r h3, h4⟩
    refine h M σ _ _ _ (c.same s) ((tk.1.mono (same_hdM s)).append (RepL.one (.lst (hd_new c.al hp) (tk.2.mono (same_hdM s))))) fun σ' H' δ' p' c' e' w' => q σ' H' δ' p' c' ((StepB.of s).trans e') w'
end Pf

/-! CoreW14: enumerate of a list from a start on. -/
namespace PySem
theorem enumS_end {prog : Program} {w : World} {A : Around} {E : Value → Shared → Prop} {s : Shared} {e it l : Addr} {i : Nat} {c : Int} {items : Array Value} {old : Value} {Q : Option Value → Shared → Prop} (hh : A.handled = none)
    (he : IsEnum s.heap e it c old) (hit : s.heap.IsListIter it l i) (hl : s.heap.IsList l items) (hx : items[i]? = none)
    (hQ : ∀ h', Heap.ExtBut it s.heap h' → Q none { s with heap := h' }) : wpAny (model prog w) A (pyNext (.ref e)) Q E s := by
  have hT : s.TypeIs (.ref e) "enumerate" := ⟨_, he, rfl⟩
  unfold pyNext
  refine wpAny_bind (wpAny_attempt (wpAny_callSpecial?_slot (name := Str.ofString "__next__") hT F.slot_enumerate_next
    (wpAny_call_entry F.slot_enumerate_next hT F.entry_enumerate_next ?_ (F.args_enumerate_next_1 _))))
  show wpAny _ _ (field (.ref e) 2 >>= _) _ _ _
  refine wpAny_bind (wpAny_field he rfl (x := .ref it) rfl ?_)
  refine wpAny_bind (wpAny_nextOf_list_end hh hit hl hx fun h' x he' hx' => ?_)
  obtain ⟨o, ho, hc⟩ := hx'
  refine wpAny_bind (wpAny_isInstance (T := "StopIteration") (b := true) ⟨o, ho, hc⟩ isSubtype_stop ?_)
  exact wpAny_pure (hQ _ he')
end PySem
namespace Pf
open PySem L2 RZ PySem.Spec PyProof.Rows
section
variable {M : Model} {A : Around} {E : Value → Shared → Prop} {s : Shared} {env : Env}
theorem callWith_typeKw {pos : Pos} {T : String} {e : Expr} {rest : List Expr} {kws : List Keyword} {Q : Value → Shared → Prop}
    (h : wpAny M A (spliced (backTo pos (starEach (e :: rest) env))) (fun vs s₁ => wpAny M A (evalAll ((backToKw pos (keywordEach kws env)).map (·.2)))
      (fun kvs s₂ => wpAny M A (call (.type T) vs (((backToKw pos (keywordEach kws env)).filterMap (·.1)).zip kvs)) Q E s₂) E s₁) E s)
    (he : backTo pos (starEach (e :: rest) env) = (false, eval e env) :: backTo pos (starEach rest env)) (hplain : (backTo pos (starEach (e :: rest) env)).any (·.1) = false)
    (hall : (backToKw pos (keywordEach kws env)).all (·.1.isSome) = true) (hkw : (backToKw pos (keywordEach kws env)).any (·.1.isNone) = false) :
    wpAny M A (callWith pos (.type T) [] (backTo pos (starEach (e :: rest) env)) (backToKw pos (keywordEach kws env))) Q E s := by
  unfold callWith
  refine wpAny_bind (wpAny_holding (wpAny_mono (Q := fun a s₁ => wpAny M A (call (.type T) ([] ++ a.pos) a.kw) Q E s₁) (E := E) ?_ (fun a s₁ h₁ => wpAny_bind (wpAny_standAt ?_)) fun _ _ x => x))
  · rw [he] at h ⊢
    exact evalArgs_kwB hall h
  simp only [hplain, hkw, Bool.or_false]
  refine wpAny_bind (wpAny_pure ?_)
  exact wpAny_bind (wpAny_mono h₁ (fun r s₂ hr => wpAny_bind (wpAny_holding (wpAny_point (wpAny_pure hr)))) fun _ _ x => x)
end
def IteS (K : PySem.W.Frag) (a : Addr) (k : Int) : L2.It :=
  ⟨fun i H => ∃ (xs : List V) (x : V), SqL K H a xs ∧ xs[i]? = some x, fun i H v H' => ∃ T x, v = .ref T ∧ H T = none ∧ H' = upd H T (.tup [.int (k + (i : Nat)), x]) ∧ ∀ xs, SqL K H a xs → xs[i]? = some x, fun i H => ∃ xs : List V, SqL K H a xs ∧ xs.length ≤ i⟩
theorem turn_enumS {P : Program} {w : World} {K : PySem.W.Frag} {elts : List Expr} {kk : Nat} {tpos : Pos} (a e it : Addr) (k : Int) (hai : a ≠ it) (hae : a ≠ e) :
    Turn P w K (.Tuple elts kk tpos) (IteS K a k) [e, it] e (fun i h => (∃ old, IsEnum h e it (k + ((i : Nat) : Int)) old) ∧ h.IsListIter it a i ∧ e ≠ it) where
  mem := by simp
  obj := fun i h st b hb => by
    obtain ⟨⟨old, he⟩, ⟨o, ho, hc, hd⟩, _⟩ := st
    have e' : b = e ∨ b = it := by simpa using hb
    rcases e' with z | z
    · rw [z]; exact ⟨_, he, fun v q => nomatch q⟩
    · rw [z]; exact ⟨o, ho, fun v q => by rw [hd] at q; cases q⟩
  keep := fun i h h' st k => let ⟨⟨old, he⟩, hi, hne⟩ := st; ⟨⟨old, k e (by simp) _ he⟩, hi.at fun o q => k it (by simp) o q, hne⟩
  item := by
    intro X hP hw hK hc i pins s σ H E I hf st hg
    subst hP hw hK
    obtain ⟨⟨old, he⟩, hit, hne⟩ := st
    obtain ⟨xs, x, hq, hx⟩ := hg
    obtain ⟨its, rv, p, hz⟩ := I.list hq
    obtain ⟨u, hu, ru⟩ := rv.get hx
    have hlt : i < its.toArray.size := by
      have := (List.getElem?_eq_some_iff.mp hu).1
      simpa using this
    have hel : e < s.heap.objs.size := Heap.lt_size he
    have hil : it < s.heap.objs.size := by obtain ⟨_, q, _⟩ := hit; exact Heap.lt_size q
    refine wpAny_pyNext_enum_itemC (Draws.list (A := X.A.in1) (show X.A.in1.handled = none from I.ok.hd hc) it a hai its.toArray) he (i := i) ⟨hit, p.isList⟩ hlt hne (by simp only [List.mem_cons, List.not_mem_nil, or_false, not_or]; exact ⟨hne, Ne.symm hae⟩) fun x' h' tk hx' ho hst' hT hsz hk => ?_
    have ex : x' = u := by
      have : its.toArray[i]? = some u := by simpa using hu
      exact Option.some.inj (hx'.symm.trans this)
    subst ex
    refine ⟨_, rfl, wpAny_letOwnedTupleGo_enum (s := { s with heap := h', toks := tk + 1 }) ho fun h'' he' sb => ?_⟩
    have hT2 : h''.get? s.heap.objs.size = some { cls := .type "tuple", data := .seq #[.int (k + (i : Nat)) tk, x'] } := (sb.2 _ (Nat.ne_of_gt hel)).trans hT
    have new : ObjOk X.prog X.w (upd H s.heap.objs.size (.tup [.int (k + (i : Nat)), x])) h'' s.heap.objs.size (.tup [.int (k + (i : Nat)), x]) :=
      ⟨by show 2 ≤ sizeLine; decide, [.int (k + (i : Nat)) tk, x'], .cons ⟨_, rfl⟩ (.cons ru .nil), ⟨_, hT2, rfl, _, rfl⟩⟩
    have I1 : Inv X pins σ (upd H s.heap.objs.size (.tup [.int (k + (i : Nat)), x])) { s with heap := h'', toks := tk + 1 } :=
      I.turnedNew (ch := [e, it]) (fun b ob hb q => (sb.2 b (fun z => hb (by simp [z]))).trans (hk b ob (fun z => hb (by simp [z])) (fun z => hb (by simp [z])) q)) hf (Nat.le_refl _) new
    refine ⟨.ref s.heap.objs.size, _, I1, rfl, ⟨_, x, rfl, I.hok.fresh (Nat.le_refl _), rfl, fun ys hy => by rw [I.list_inj hy hq]; exact hx⟩, ⟨⟨x', ?_⟩, hst'.1.at fun o q => (sb.2 it (Ne.symm hne)).trans q, hne⟩, fun b hb => ?_⟩
    · have e1 : k + ((i + 1 : Nat) : Int) = k + (i : Int) + 1 := by omega
      rw [e1]; exact he'
    · have hb' : b < s.heap.objs.size := by
        have e' : b = e ∨ b = it := by simpa using hb
        rcases e' with z | z
        · rw [z]; exact hel
        · rw [z]; exact hil
      rw [upd_ne (Nat.ne_of_lt hb')]
      exact (hf b hb).1
  done := by
    intro X hP hw hK hc i pins s σ H E I hf st hg
    subst hP hw hK
    obtain ⟨⟨old, he⟩, hit, hne⟩ := st
    obtain ⟨xs, hq, hx⟩ := hg
    obtain ⟨its, rv, p, hz⟩ := I.list hq
    obtain ⟨f0, f1, f2, f3, f4, f5⟩ := hf it (by simp)
    have hl := rv.length
    have hno : its.toArray[i]? = none := by simp; omega
    exact enumS_end (I.ok.hd hc) he hit p.isList hno fun h' eb => ⟨rfl, I.turned (t' := s.toks) (fun b o hb q => eb b o hb q) f0 f1 f3 f4 f5⟩
  self := fun A i s Q E st h => let ⟨⟨_, he⟩, _⟩ := st; wpAny_pyIter_enum he h
/-- enumerate(xs, start=k) -/
def iEnumS (K : PySem.W.Frag) (ta tk : TA) : TI := fun σ H R => ta σ H fun vs H1 => tk σ H1 fun zs H2 => ∃ a xs k, vs = [.ref a] ∧ zs = [.int k] ∧ -(2 ^ 63) ≤ k ∧ k < 2 ^ 63 ∧ SqL K H2 a xs ∧ R (IteS K a k) H2
theorem pi_enumS {X : Cx} {e : Expr} {ta tk : TA} {p pos tpos : Pos} {elts : List Expr} {kk : Nat} {kws : List Keyword} (K : PySem.W.Frag) (hg : Gl X "enumerate") (hm : X.mg "enumerate" = none) (ha : PA X [e] ta) (hk : PK X kws tk)
    (he : backTo pos (starEach [e] X.env) = (false, eval e X.env) :: backTo pos (starEach [] X.env) := by rfl) (hpl : (backTo pos (starEach [e] X.env)).any (·.1) = false := by rfl)
    (hall : (backToKw pos (keywordEach kws X.env)).all (·.1.isSome) = true := by rfl) (hnone : (backToKw pos (keywordEach kws X.env)).any (·.1.isNone) = false := by rfl) (hks : (backToKw pos (keywordEach kws X.env)).filterMap (·.1) = [Str.ofString "start"] := by rfl) (hK : X.K = K := by rfl) :
    PI X (.Tuple elts kk tpos) (.Call (.Name "enumerate" p) [e] kws pos) (iEnumS K ta tk) := by
  subst hK
  refine ⟨fun pins s σ H R I h => ?_⟩
  refine wpAny_Call_Name_kw (ld_blt I hg hm boot_enumerate ?_)
  refine callWith_typeKw (thn (ha.run pos pins s σ H _ I h) fun us s0 ⟨vs, H0, I0, r1, q1⟩ => thn (hk.run pos pins s0 σ H0 _ I0 q1) fun ws s1 ⟨zs, H1, I1, r2, q2⟩ => ?_) he hpl hall hnone
  rw [hks]
  obtain ⟨a, xs, k, rfl, rfl, k0, k1, hq, q⟩ := q2
  obtain rfl := Vals.ref1 r1
  cases r2 with
  | cons r rr =>
    cases rr
    obtain ⟨tk, rfl⟩ := r
    obtain ⟨its, rv, p', hz⟩ := I1.list hq
    have hle : ∀ b ∈ [s1.heap.objs.size + 1, s1.heap.objs.size], s1.heap.objs.size ≤ b := fun b hb => by
      have e' : b = s1.heap.objs.size + 1 ∨ b = s1.heap.objs.size := by simpa using hb
      rcases e' with z | z
      · rw [z]; exact Nat.le_add_right _ _
      · rw [z]; exact Nat.le_refl _
    refine enum_begins_start (begins_list a its.toArray) p'.isList k0 k1 fun h' he hit hsz hk => wpAny_pyIter_enum he ?_
    have I2 : Inv X pins σ H1 { s1 with heap := h' } := I1.kept (t' := s1.toks) hk
    have hal : a < s1.heap.objs.size := by obtain ⟨o, ho, _⟩ := p'.isList; exact Heap.lt_size ho
    exact ⟨s1.heap.objs.size + 1, [s1.heap.objs.size + 1, s1.heap.objs.size], _, _, H1, rfl, I2, turn_enumS a (s1.heap.objs.size + 1) s1.heap.objs.size k (Nat.ne_of_lt hal) (Nat.ne_of_lt (Nat.lt_succ_of_lt hal)), ⟨⟨.none, by rw [show k + ((0 : Nat) : Int) = k by omega]; exact he⟩, ⟨_, hit, rfl, rfl⟩, Nat.succ_ne_self _⟩, fun b hb => I1.fpOk (hle b hb) (I1.hok.fresh (hle b hb)), q⟩
theorem walk_enumS {K : PySem.W.Frag} {a : Addr} {k : Int} {xs : List V} : Walk (IteS K a k) xs.length (fun H => SqL K H a xs) (YPair (fun i => some (.int (k + (i : Nat)))) (fun i => xs[i]?)) := by
  refine ⟨fun i _ hi q => ⟨xs, xs[i], q, by simp [hi]⟩, fun _ q => ⟨xs, q, Nat.le_refl _⟩, fun i H v H' _ q y => ?_⟩
  obtain ⟨T, x, h1, h2, h3, h4⟩ := y
  exact ⟨T, .int (k + (i : Nat)), x, h1, h2, h3, rfl, h4 xs q⟩
/-- the items, each with its number from k on -/
def numberedS (k : Int) (xs : List D) : List D := (List.range xs.length).map fun i => .tup [.int (k + (i : Nat)), xs.getD i .non]
theorem numberedS_len {k : Int} {xs : List D} : (numberedS k xs).length = xs.length := by simp [numberedS]
theorem numberedS_get {k : Int} {xs : List D} {i : Nat} {f : D} (e3 : xs[i]? = some f) : (numberedS k xs)[i]? = some (.tup [.int (k + (i : Nat)), f]) := by
  have hi := (List.getElem?_eq_some_iff.mp e3).1
  unfold numberedS
  rw [List.getElem?_map, List.getElem?_range hi]
  show some (D.tup [.int (k + (i : Nat)), xs.getD i .non]) = _
  rw [show xs.getD i .non = f by simp [List.getD, e3]]
theorem it_enumS {F : Fm} {δ : List SD} {te tk : TE} {PX : List D → Prop} (h : Ev F te δ fun d => ∃ ds, d = .lst ds ∧ Ev F tk δ fun y => ∃ k, y = .int k ∧ -(2 ^ 63) ≤ k ∧ k < 2 ^ 63 ∧ PX (numberedS k ds)) : ItD F (iEnumS F.K (tCons te tNil) (tCons tk tNil)) δ PX := fun M σ H R c q =>
  h M σ H _ c fun v d H1 p c1 e r => by
    obtain ⟨ds, rfl, p⟩ := p
    refine p M σ H1 _ c1 fun w y H2 p2 c2 e2 r2 => ?_
    obtain ⟨k, rfl, k0, k1, px⟩ := p2
    cases r2
    have r' := r.mono (hd_step c1 e2)
    cases r' with
    | @lst a vs _ h1 h2 =>
      refine ⟨_, _, k, rfl, rfl, k0, k1, SqL.of (hd_of h1).2, q _ _ H2 px c2 (e.trans e2) ⟨fun H => SqL F.K H a vs, YPair (fun i => some (.int (k + (i : Nat)))) (fun i => vs[i]?), ?_, fun M2 H3 e _ => (SqL.of (hd_of (e _ _ h1)).2 : SqL F.K H3 a vs), fun M2 H3 i x H4 al e y => ?_⟩⟩
      · have := walk_enumS (K := F.K) (a := a) (k := k) (xs := vs)
        rw [numberedS_len, ← h2.length]
        exact this
      · obtain ⟨T, v, w, rfl, hT, rfl, e1, e2⟩ := y
        cases e1
        obtain ⟨f, e3, r2⟩ := h2.getV e2
        exact ⟨same_new hT, .tup [.int (k + (i : Nat)), f], numberedS_get e3, pair_ok al hT (.int _) (r2.mono e)⟩
end Pf

/-! CoreW15: data alike compared by <; an item of a list of one's own. -/
namespace Pf
open PySem PySem.Spec L2 PfL LamX PfT HandSPX PyProof.Rows
theorem ev_ixO {F : Fm} {δ : List SD} {tb : TE} {P : D → Prop} {i : Nat} {p : Addr} {ds : List D} (hi : δ[i]? = some (.own p (.lst ds))) (h : Ev F tb δ fun y => ∃ k d, y = .int k ∧ atI ds k = some d ∧ P d) : Ev F (tOp (rIxL F.K) (tVar i) tb) δ P := fun M σ H Q c q => by
  obtain ⟨s, hs, e, _⟩ := c.sl i _ hi
  subst e
  refine ⟨_, hs, ?_⟩
  refine h M σ H _ c fun w y H1 p1 c1 e1 r1 => ?_
  obtain ⟨k, d, rfl, hk, pd⟩ := p1
  cases r1
  obtain ⟨s', hs', e', m', ho', hp', rr'⟩ := c1.sl i _ hi
  cases rr' with
  | @lst vs _ rr =>
    obtain ⟨v, e, r⟩ := repL_at rr hk
    exact ⟨p, vs, k, v, rfl, rfl, SqL.of hp', e, q v d H1 pd c1 e1 r⟩
end Pf

/-! CoreW16: a lambda that captures a comprehension's own name, asked there. -/
namespace PfL
open PySem PySem.Spec PyProof.Rows L2 LamX HandSPX
/-- the cells of a block alone -/
def ownC (fn : Str → Bool) (cl : List (Str × Addr)) : List (Str × Addr) := cl.filter fun p => fn p.1
theorem ownC_look {fn : Str → Bool} {y : Str} : ∀ {cl : List (Str × Addr)}, (ownC fn cl).lookup y = if fn y = true then cl.lookup y else none
  | [] => by simp [ownC]
  | (n, a) :: r => by
    have ih := ownC_look (fn := fn) (y := y) (cl := r)
    unfold ownC at ih ⊢
    rw [List.filter_cons]
    by_cases hn : fn n = true
    · rw [if_pos hn, List.lookup_cons, List.lookup_cons]
      cases hx : y == n with
      | true =>
        obtain rfl : y = n := by simpa using hx
        rw [if_pos hn]
      | false => exact ih
    · rw [if_neg hn, ih, List.lookup_cons]
      cases hx : y == n with
      | true =>
        obtain rfl : y = n := by simpa using hx
        rw [if_neg hn, if_neg hn]
      | false => rfl
theorem ownC_of {fn : Str → Bool} {cl : List (Str × Addr)} {y : Str} {c : Addr} (h : (ownC fn cl).lookup y = some c) : fn y = true ∧ cl.lookup y = some c := by
  rw [ownC_look] at h
  by_cases hn : fn y = true
  · rw [if_pos hn] at h
    exact ⟨hn, h⟩
  · rw [if_neg hn] at h
    cases h
theorem ownC_at {fn : Str → Bool} {cl : List (Str × Addr)} {y : Str} (hn : fn y = true) : (ownC fn cl).lookup y = cl.lookup y := by
  rw [ownC_look, if_pos hn]
theorem clo_own {fn : Str → Bool} {cl : List (Str × Addr)} : ∀ {names : List (Str × NameKind)} {acc : List (Str × Addr)}, (∀ y ∈ names, y.2 = .free → fn y.1 = true) → cloFrom (ownC fn cl) names acc = cloFrom cl names acc
  | [], _, _ => rfl
  | (n, k) :: r, acc, h => by
    have h' : ∀ y ∈ r, y.2 = .free → fn y.1 = true := fun y hy => h y (List.mem_cons_of_mem _ hy)
    show (if (k == NameKind.free) = true then cloFrom (ownC fn cl) r ((n, ((ownC fn cl).lookup n).getD 0) :: acc) else cloFrom (ownC fn cl) r acc) = (if (k == NameKind.free) = true then cloFrom cl r ((n, (cl.lookup n).getD 0) :: acc) else cloFrom cl r acc)
    by_cases hk : (k == NameKind.free) = true
    · rw [if_pos hk, if_pos hk, ownC_at (h (n, k) (by simp) (by simpa using hk))]
      exact clo_own h'
    · rw [if_neg hk, if_neg hk]
      exact clo_own h'
section
variable {X : Cx}
open Classical in
theorem pe_fzcallB {k : Nat} {f : Addr} {fd : FuncData} {a x : Str} {sp : Sp} {e : Expr} {te : TE} {p pos : Pos} (Fn : FnOk X.prog X.w X.K X.mg X.base CX0 k f fd [a] sp) (hr : Room k X.A) (hg : Gl X x) (hm : X.mg x = some (.ref f)) (hk : PySem.W.keepIn X.K (.ref f) = true) (hb : Binds X.K fd [a] [])
    (knd : ∀ y, X.fn y = true → X.env.scope.names.lookup y = some .cell) (he : PE X e te) (hdb : (x == ("__debug__" : Str)) = false := by decide)
    (hse : starEach [e] X.env = (false, eval e X.env) :: starEach [] X.env := by rfl) (hpl : (backTo pos (starEach ([] : List Expr) X.env)).any (·.1) = false := by rfl) :
    PE X (.Call (.Name x p) [e] [] pos) (tFz X.N (ownC X.fn X.env.cells) sp te) := by
  generalize hOC : ownC X.fn X.env.cells = OC
  have ownC_of : ∀ {y : Str} {c : Addr}, OC.lookup y = some c → X.fn y = true ∧ X.env.cells.lookup y = some c := fun h => by
    rw [← hOC] at h
    exact PfL.ownC_of h
  refine ⟨fun pins s σ H Q I h => wpAny_Call_Name_kw (ld_glob I hg hm ?_ hdb)⟩
  refine PySem.W.callWith_K (h₀ := X.base) I.ok.mod.kin hk (thn ((pa_cons he pa_nil hse).run pos pins s σ H (fun vs H1 => ∀ Z : Zm, CFz X.N σ OC Z → (∀ b o, Z b = some o → H1 b = none) → sp vs (fz Z H1) (fun u H' => In Z H' → Q u (uz Z H')) (fun _ _ _ => False)) I h) fun us s1 ⟨vs, H1, I1, r, z⟩ => ⟨I1.kIn, ?_⟩) hse hpl
  let Z : Zm := fun b => if ∃ y, OC.lookup y = some b then s1.heap.get? b else none
  have Zin : ∀ {y b}, OC.lookup y = some b → Z b = s1.heap.get? b := fun {y b} q => if_pos ⟨y, q⟩
  have Zof : ∀ {b o}, Z b = some o → ∃ y, OC.lookup y = some b := fun {b o} q => by
    by_cases hy : ∃ y, OC.lookup y = some b
    · exact hy
    · rw [show Z b = none from if_neg hy] at q
      cases q
  have zo : Out Z H1 s1.heap := fun b o q => by
    obtain ⟨y, hy⟩ := Zof q
    exact ⟨I1.freeC y b (ownC_of hy).2, by rw [← Zin hy]; exact q⟩
  have old : ∀ {b}, (∃ o, X.s_0.heap.get? b = some o) → Z b = none := fun {b} ⟨o, q⟩ => by
    cases hz : Z b with
    | none => rfl
    | some o' =>
      obtain ⟨y, hy⟩ := Zof hz
      exact absurd (Nat.lt_of_lt_of_le (Heap.lt_size q) (I1.ok.cab y b (ownC_of hy).1 (ownC_of hy).2)) (Nat.lt_irrefl _)
  have cz : CFz X.N σ OC Z := by
    refine ⟨fun y b hy => ?_, fun x y c h1 h2 => I1.ok.inj x y c (ownC_of h1).2 (ownC_of h2).2⟩
    obtain ⟨u, o, ho, hd⟩ := I1.cell y b (ownC_of hy).2
    refine ⟨o, u, by rw [Zin hy]; exact ho, hd, fun i v h1 h2 => ?_⟩
    obtain ⟨m, hn, hl⟩ := I1.loc
    obtain ⟨u', rv, lk⟩ := hl i y v h1 h2 (.inr (.inl (knd y (ownC_of hy).1)))
    rcases lk with ⟨w1, _⟩ | ⟨_, b', hb', o', ho', hd'⟩
    · have w1 : X.env.scope.names.lookup y = some .local := w1
      rw [knd y (ownC_of hy).1] at w1
      cases w1
    · rw [(ownC_of hy).2] at hb'
      cases hb'
      rw [ho] at ho'
      cases ho'
      rw [hd] at hd'
      cases hd'
      exact ⟨u', rfl, rv⟩
  have nf : ∀ b ∈ frs X.stack, Z b = none := fun b hbm => by
    have out : ∀ b ∈ frs X.outer, Z b = none := fun b hbm => by
      obtain ⟨_, o, ho, _⟩ := I1.ok.funs.mem hbm
      exact old ⟨o, ho⟩
    rcases I1.ok.stk with hst | ⟨hst, hfr⟩
    · rw [hst] at hbm
      exact out b hbm
    · rw [hst] at hbm
      obtain ⟨en, hen, hf⟩ := List.mem_filterMap.mp hbm
      rcases List.mem_cons.mp hen with rfl | hen
      · rw [hfr] at hf
        cases hf
        cases hz : Z X.env.locals with
        | none => rfl
        | some o' =>
          obtain ⟨y, hy⟩ := Zof hz
          obtain ⟨u, o, ho, hd⟩ := I1.cell y _ (ownC_of hy).2
          obtain ⟨m, ⟨o2, es, ep, ho2, hd2, _⟩, _⟩ := I1.loc
          rw [ho] at ho2
          cases ho2
          rw [hd] at hd2
          cases hd2
      · exact out b (List.mem_filterMap.mpr ⟨en, hen, hf⟩)
  have e0 : Env0 X.prog X.w X.K X.mg X.base X.A X.stack s1 (fz Z H1) := env0_fz I1.env0 zo (fun b o q => old ⟨o, (I1.ok.bs b o q).1⟩) nf
  have q := z Z cz fun b o y => (zo b o y).1
  have hl : us.length = [a].length := by rw [← r.length]; exact Fn.len _ _ _ _ q
  have b := hb s1 us I1.kIn (by rw [List.append_nil]; exact hl)
  rw [List.append_nil] at b
  refine wpAny_call (codeAny_mono (Fn.run X.A X.stack s1 (fz Z H1) ⟨us, []⟩ us vs _ _ hr e0 b r q) fun r s' hq => ?_)
  cases r with
  | error e => exact (show False from hq).elim
  | ok fl =>
    cases fl with
    | ret u => exact I1.after (ce_thaw zo hq)
    | next => exact hq.elim
    | brk => exact hq.elim
    | cont => exact hq.elim

/-- f(lambda ..), f a def whose argument may be asked, in a block whose own names the lambda captures -/
def tTryB (N : List Str) (sp : Sp) (P : Addr) (q : Str) (params : Arguments) (body : Expr) (scope : Scope) : TE := fun σ H Q => ∀ cl, (∀ y ∈ scope.names, y.2 = .free → ∃ c, cl.lookup y.1 = some c) → tFz N cl sp (tMkL P q params body scope cl) σ H Q
theorem pe_tryB {k : Nat} {f : Addr} {fd : FuncData} {a x : Str} {sp : Sp} {c P : Addr} {params : Arguments} {body : Expr} {scope : Scope} {p lp pos : Pos} (Fn : FnOk X.prog X.w X.K X.mg X.base CX0 k f fd [a] sp) (hr : Room k X.A) (hg : Gl X x) (hm : X.mg x = some (.ref f)) (hk : PySem.W.keepIn X.K (.ref f) = true) (hb : Binds X.K fd [a] [])
    (knd : ∀ y, X.fn y = true → X.env.scope.names.lookup y = some .cell) (TB : TabB X.base X.mg c P) (hcode : X.env.code = .ref c) (hp : LamPar params) (own : ∀ y ∈ scope.names, y.2 = .free → X.fn y.1 = true) (hdb : (x == ("__debug__" : Str)) = false := by decide)
    (hse : starEach [.Lambda params body scope lp] X.env = (false, eval (.Lambda params body scope lp) X.env) :: starEach [] X.env := by rfl) (hpl : (backTo pos (starEach ([] : List Expr) X.env)).any (·.1) = false := by rfl) :
    PE X (.Call (.Name x p) [.Lambda params body scope lp] [] pos) (tTryB X.N sp P (X.env.qual ++ "<lambda>") params body scope) := by
  have e : tMkL P (X.env.qual ++ "<lambda>") params body scope (ownC X.fn X.env.cells) = tMkL P (X.env.qual ++ "<lambda>") params body scope X.env.cells := by
    have key : ∀ (H : Hp) (f : Addr) (F : LF) (H1 : Hp), MkL P (X.env.qual ++ "<lambda>") params body scope (ownC X.fn X.env.cells) H f F H1 ↔ MkL P (X.env.qual ++ "<lambda>") params body scope X.env.cells H f F H1 := fun H f F H1 =>
      ⟨fun m => ⟨m.ext, m.tab, m.non, m.new, m.rdy, by rw [← clo_own own]; exact m.eq, m.d0, m.d1⟩, fun m => ⟨m.ext, m.tab, m.non, m.new, m.rdy, by rw [clo_own own]; exact m.eq, m.d0, m.d1⟩⟩
    funext σ H Q
    unfold tMkL
    simp only [key]
  have has : X.Ok → ∀ y ∈ scope.names, y.2 = .free → ∃ c, (ownC X.fn X.env.cells).lookup y.1 = some c := fun ok y hy hf => by
    rw [ownC_at (own y hy hf)]
    exact ok.has _ (.inl (knd _ (own y hy hf)))
  have h1 : PE X (.Call (.Name x p) [.Lambda params body scope lp] [] pos) (tFz X.N (ownC X.fn X.env.cells) sp (tMkL P (X.env.qual ++ "<lambda>") params body scope (ownC X.fn X.env.cells))) := by
    rw [e]
    refine pe_fzcallB Fn hr hg hm hk hb knd (pe_lam TB hcode hp fun ok y hy hf => ?_) hdb hse hpl
    exact ok.has _ (.inl (knd _ (own y hy hf)))
  exact ⟨fun pins s σ H Q I h => h1.run pins s σ H Q I (h _ (has I.ok))⟩
theorem pe_tryBN (N : List Str) (q : Str) {k : Nat} {f : Addr} {fd : FuncData} {a x : Str} {sp : Sp} {c P : Addr} {params : Arguments} {body : Expr} {scope : Scope} {p lp pos : Pos} (Fn : FnOk X.prog X.w X.K X.mg X.base CX0 k f fd [a] sp) (hr : Room k X.A) (hg : Gl X x) (hm : X.mg x = some (.ref f)) (hk : PySem.W.keepIn X.K (.ref f) = true) (hb : Binds X.K fd [a] [])
    (knd : ∀ y, X.fn y = true → X.env.scope.names.lookup y = some .cell) (TB : TabB X.base X.mg c P) (hcode : X.env.code = .ref c) (hp : LamPar params) (own : ∀ y ∈ scope.names, y.2 = .free → X.fn y.1 = true) (hN : X.N = N) (hq : X.env.qual ++ "<lambda>" = q) (hdb : (x == ("__debug__" : Str)) = false := by decide)
    (hse : starEach [.Lambda params body scope lp] X.env = (false, eval (.Lambda params body scope lp) X.env) :: starEach [] X.env := by rfl) (hpl : (backTo pos (starEach ([] : List Expr) X.env)).any (·.1) = false := by rfl) :
    PE X (.Call (.Name x p) [.Lambda params body scope lp] [] pos) (tTryB N sp P q params body scope) := by
  subst hN hq
  exact pe_tryB Fn hr hg hm hk hb knd TB hcode hp own hdb hse hpl
end
end PfL
namespace Pf
open PySem PySem.Spec L2 PfL LamX PfT HandSPX PyProof.Rows
theorem blk_knd {X : Cx} {s : Shared} {H : Hp} {scope : Scope} {C : Addr} {cl : List (Str × Addr)} {fp : List Addr} : ∀ y, (X.blk s H scope (compEnvC scope cl C X.env) fp).fn y = true → (X.blk s H scope (compEnvC scope cl C X.env) fp).env.scope.names.lookup y = some .cell := fun y h => by
  have h : (scope.names.lookup y == some .cell) = true := h
  have h : scope.names.lookup y = some .cell := by simpa using h
  exact lookup_relS_keep (by decide) h
theorem blk_own {X : Cx} {s : Shared} {H : Hp} {scope lsc : Scope} {C : Addr} {cl : List (Str × Addr)} {fp : List Addr} (h : (lsc.names.all fun y => !decide (y.2 = .free) || decide (scope.names.lookup y.1 = some .cell)) = true) : ∀ y ∈ lsc.names, y.2 = .free → (X.blk s H scope (compEnvC scope cl C X.env) fp).fn y.1 = true := fun y hy e => by
  have := List.all_eq_true.mp h y hy
  simp only [Bool.or_eq_true, Bool.not_eq_true', decide_eq_false_iff_not, decide_eq_true_eq] at this
  rcases this with z | z
  · exact absurd e z
  · show (scope.names.lookup y.1 == some .cell) = true
    rw [z]
    rfl
/-- _law_try(lambda: ..) in a comprehension -/
theorem ev_tryB {P : Program} {w : World} {K : PySem.W.Frag} {mg : Str → Option Value} {base : Heap} {k : Nat} {ct : List Value} {N : List Str} {δ : List SD} {F : Fm} {PA : Addr} {q : Str} {params : Arguments} {body : Expr} {scope : Scope} {Pd : D → Prop} (hK : F.K = K) (hN : δ.length = N.length) (hT : F.T = [(PA, q)]) (hp : params = par0 ∨ params.defaults ≠ [])
    (h : ∀ cells : List (Str × Addr), (∀ y ∈ scope.names, y.2 = .free → ∃ c, cells.lookup y.1 = some c) → ∀ f F' hs, LamIs f F' hs → F' = ⟨q, params, body, scope, cloFrom cells scope.names [], F'.c, F'.dV⟩ → LamOk P w K mg base k ct N cells δ f hs Pd) :
    Ev F (tTryB N (spTry P w K mg base (k + 1) ct) PA q params body scope) δ Pd := fun M σ H Q c g cl hcl =>
  ev_fz1 hK hN (ev_lam hT hp fun f F' hs li eq => ⟨f, hs, rfl, h cl hcl f F' hs li eq⟩) M σ H Q c g
end Pf

/-! CoreW17: a text so many times; an item of a list of one's own is stored. -/
namespace PfL
open PySem PySem.Spec PyProof.Rows L2 LamX HandSPX
theorem foldl_cps (x : Array Nat) : ∀ (n : Nat) (a : Array Nat), (((List.replicate n x).foldl (· ++ ·) a) : Array Nat).toList = a.toList ++ (List.replicate n x.toList).flatten
  | 0, a => by simp
  | n + 1, a => by
    rw [List.replicate_succ, List.foldl_cons, foldl_cps x n, List.replicate_succ, List.flatten_cons]
    simp
/-- x, n times -/
def timesS (x : Str) (n : Nat) : Str := ⟨(List.replicate n x.cps.toList).flatten.toArray⟩
def rRepS : R2 := fun x y H Q => ∃ (z : Str) (k : Nat), x = .str z ∧ y = .int (k : Int) ∧ k ≤ 1000 ∧ z.length ≤ 1000 ∧ Q (.str (timesS z k)) H
theorem op_repS {X : Cx} : OpR X (binaryOp .Mult) rRepS := by
  intro pins s σ H x y v u Q I rx ry h
  obtain ⟨z, k, rfl, rfl, hk, hz, q⟩ := h
  obtain ⟨t, rfl⟩ := rx
  obtain ⟨t', rfl⟩ := ry
  have hle : z.length * k ≤ 1000 * 1000 := Nat.mul_le_mul hz hk
  refine PySem.P.mul_str (by
    have h1 : ¬ (k : Int) < -(2 ^ 63 : Int) := by omega
    have h2 : ¬ (k : Int) ≥ 2 ^ 63 := by omega
    rw [decide_eq_false h1, decide_eq_false h2]
    rfl) (fun h1 _ => ?_) (fun h1 _ => ?_) ?_
  · have : (1000 : Int) ≤ (2 ^ 63 - 1) / (k : Int) := by
      have h0 : (0 : Int) < k := by omega
      rw [Int.le_ediv_iff_mul_le h0]
      omega
    omega
  · unfold Builtin.Str.tooLong
    rw [decide_eq_false]
    rw [Int.toNat_natCast]
    have : (1000 * 1000 : Nat) ≤ sizeLine := by decide
    omega
  by_cases h1 : (k : Int) < 1
  · rw [if_pos h1]
    have e : timesS z k = Str.empty := by
      have : k = 0 := by omega
      subst this
      rfl
    exact ⟨by decide, ⟨.str Str.empty, H, I.tok _, ⟨_, rfl⟩, e ▸ q⟩⟩
  · rw [if_neg h1]
    by_cases h2 : (((k : Int) == 1) || (z.length == 0)) = true
    · rw [if_pos h2]
      have e : timesS z k = z := by
        rcases Bool.or_eq_true_iff.mp h2 with h | h
        · have : k = 1 := by
            have : (k : Int) = 1 := by simpa using h
            omega
          subst this
          show Str.mk _ = z
          simp
        · have hz0 : z.cps.toList = [] := by
            have : z.length = 0 := by simpa using h
            exact List.length_eq_zero_iff.mp (by simpa [Str.length] using this)
          show Str.mk _ = z
          rw [hz0]
          have : (List.replicate k ([] : List Nat)).flatten = [] := by simp
          rw [this]
          obtain ⟨⟨l⟩⟩ := z
          simp at hz0
          rw [hz0]
      exact ⟨.str z, H, I, ⟨_, rfl⟩, by rw [e] at q; exact q⟩
    · rw [if_neg h2]
      have e : (⟨(List.replicate (k : Int).toNat z.cps).foldl (· ++ ·) #[]⟩ : Str) = timesS z k := by
        show Str.mk _ = Str.mk _
        congr 1
        refine Array.toList_inj.mp ?_
        rw [foldl_cps, Int.toNat_natCast]
        simp
      rw [e]
      refine ⟨?_, ⟨.str (timesS z k), H, I.tok _, ⟨_, rfl⟩, q⟩⟩
      have hl : (timesS z k).length = k * z.length := by
        show (timesS z k).cps.size = _
        unfold timesS
        simp [Str.length]
      have : (1000 * 1000 : Nat) ≤ sizeLine := by decide
      rw [hl, Nat.mul_comm]
      omega
end PfL
namespace Pf
open PySem PySem.Spec L2 PfL LamX PfT HandSPX PyProof.Rows
theorem od_repS {K : PySem.W.Frag} {P : D → Prop} {z : Str} {k : Int} (h0 : 0 ≤ k) (hk : k ≤ 1000) (hz : z.length ≤ 1000) (p : P (.str (timesS z k.toNat))) : OpD K rRepS (.str z) (.int k) P := fun M H v w Q al r1 r2 q => by
  cases r1
  cases r2
  refine ⟨z, k.toNat, rfl, by rw [Int.toNat_of_nonneg h0], by omega, hz, q _ _ H p (Same.refl H) (.str _)⟩
theorem repL_set {K : PySem.W.Frag} {H : Hp} {v : V} {d : D} (r : Rep K H v d) : ∀ {vs : List V} {ds : List D} (i : Nat), RepL K H vs ds → RepL K H (vs.set i v) (ds.set i d)
  | _, _, _, .nil => .nil
  | _, _, 0, .cons _ t => .cons r t
  | _, _, i + 1, .cons q t => .cons q (repL_set r i t)
theorem ixN_nat {n j : Nat} (h : j < n) : ixN n (j : Int) = some j := by
  unfold ixN
  rw [if_pos (by omega), Int.toNat_natCast, if_pos (by omega)]
/-- x[k] = e, x a list of one's own -/
theorem do_setAt {F : Fm} {δ : List SD} {R : PD} {te ti : TE} {i : Nat} {p : Addr} {ds : List D} (hi : δ[i]? = some (.own p (.lst ds))) (h : Ev F te δ fun x => Ev F ti δ fun y => ∃ j : Nat, y = .int (j : Int) ∧ j < ds.length ∧ R.nx (δ.set i (.own p (.lst (ds.set j x))))) :
    Do F (tAsg te (gSub (tVar i) ti rSetL)) δ R := fun M σ H E c a b k d => by
  refine h M σ H _ c fun v x H1 px c1 e r => ?_
  obtain ⟨y, h1, hy, m, ho, h3, r0⟩ := c1.sl i _ hi
  subst hy
  refine ⟨_, h1, px M σ H1 _ c1 fun u y H2 py c2 e2 ry => ?_⟩
  obtain ⟨j, rfl, hj, pn⟩ := py
  cases ry
  obtain ⟨_, _, _, _, ho2, h4, r4⟩ := c2.sl i _ hi
  cases r4 with
  | @lst ws _ r4 =>
    rename_i e0 _
    obtain ⟨s', hs', es', _⟩ := c2.sl i _ hi
    refine ⟨p, ws, _, j, rfl, rfl, by simp_all, ixN_nat (by rw [r4.length]; exact hj), ?_⟩
    have s1 := hd_step c e
    have s2 := hd_step c1 e2
    refine a M σ _ _ pn (c2.put hi (.lst (repL_set (r.mono s2) j r4))) ?_
    rw [hd_upd m]
    exact s1.trans s2
end Pf

set_option maxHeartbeats 16000000
namespace Pf
open PySem L2 PfL RZ
def top (i : Nat) : Stmt := PySem.Challenge.pw_partfirsts_k60_texts_of_readers_refused.main.body.getD i (.Pass ⟨0, 0, 0, 0⟩)
abbrev s_copied : Stmt := top 2
abbrev s_InvalidText_init : Stmt := inClass (top 10) 0
abbrev s_is_whole : Stmt := top 16
abbrev s_is_number : Stmt := top 17
abbrev s__is_ask : Stmt := top 29
abbrev s__are_asks : Stmt := top 30
abbrev s__is_following : Stmt := top 31
abbrev s__is_state : Stmt := top 32
abbrev s_check_orders : Stmt := top 33
abbrev s__check_states : Stmt := top 34
abbrev s_Reader_init : Stmt := inClass (top 35) 5
abbrev s_Reader_len : Stmt := inClass (top 35) 13
abbrev s_number_of : Stmt := top 38
abbrev s_read_reader : Stmt := top 39
abbrev s__split : Stmt := top 40
abbrev s__read_head : Stmt := top 41
abbrev s__state_of : Stmt := top 42
abbrev s__check_goals : Stmt := top 43
abbrev s_open : Stmt := top 45
abbrev s_draw : Stmt := top 46
abbrev s_of : Stmt := top 47
abbrev s_like : Stmt := top 48
abbrev s_field : Stmt := top 49
abbrev s_try : Stmt := top 50
abbrev s_state : Stmt := top 51
abbrev s_spec : Stmt := top 52
abbrev s_good_spec : Stmt := top 53
abbrev s_any_spec : Stmt := top 54
abbrev s_goal_word : Stmt := top 55
abbrev s_reader_lines : Stmt := top 56
abbrev s_text : Stmt := top 57
abbrev s_far_line : Stmt := top 58
abbrev s_goals_so : Stmt := top 59
abbrev s_law : Stmt := top 60
abbrev N_copied : List Str := ["value", "item"]
theorem sc_copied : FnScope N_copied ["value"] (defScope s_copied) := ⟨rfl, rfl, rfl, by decide +kernel, rfl, by decide +kernel, by decide +kernel⟩
abbrev N_InvalidText_init : List Str := ["self", "line"]
theorem sc_InvalidText_init : FnScope N_InvalidText_init ["self", "line"] (defScope s_InvalidText_init) := ⟨rfl, rfl, rfl, by decide +kernel, rfl, by decide +kernel, by decide +kernel⟩
abbrev N_is_whole : List Str := ["value"]
theorem sc_is_whole : FnScope N_is_whole ["value"] (defScope s_is_whole) := ⟨rfl, rfl, rfl, by decide +kernel, rfl, by decide +kernel, by decide +kernel⟩
abbrev N_is_number : List Str := ["value", "least", "most"]
theorem sc_is_number : FnScope N_is_number ["value", "least", "most"] (defScope s_is_number) := ⟨rfl, rfl, rfl, by decide +kernel, rfl, by decide +kernel, by decide +kernel⟩
abbrev N__is_ask : List Str := ["value"]
theorem sc__is_ask : FnScope N__is_ask ["value"] (defScope s__is_ask) := ⟨rfl, rfl, rfl, by decide +kernel, rfl, by decide +kernel, by decide +kernel⟩
abbrev N__are_asks : List Str := ["value", "ask"]
theorem sc__are_asks : FnScope N__are_asks ["value"] (defScope s__are_asks) := ⟨rfl, rfl, rfl, by decide +kernel, rfl, by decide +kernel, by decide +kernel⟩
abbrev N__is_following : List Str := ["value", "many"]
theorem sc__is_following : FnScope N__is_following ["value", "many"] (defScope s__is_following) := ⟨rfl, rfl, rfl, by decide +kernel, rfl, by decide +kernel, by decide +kernel⟩
abbrev N__is_state : List Str := ["value", "many", "size", "asks", "full", "thin"]
theorem sc__is_state : FnScope N__is_state ["value", "many"] (defScope s__is_state) := ⟨rfl, rfl, rfl, by decide +kernel, rfl, by decide +kernel, by decide +kernel⟩
abbrev N_check_orders : List Str := ["inner", "order"]
theorem sc_check_orders : FnScope N_check_orders ["inner", "order"] (defScope s_check_orders) := ⟨rfl, rfl, rfl, by decide +kernel, rfl, by decide +kernel, by decide +kernel⟩
abbrev N__check_states : List Str := ["states", "at", "state"]
theorem sc__check_states : FnScope N__check_states ["states"] (defScope s__check_states) := ⟨rfl, rfl, rfl, by decide +kernel, rfl, by decide +kernel, by decide +kernel⟩
abbrev N_Reader_init : List Str := ["self", "mark", "states", "inner", "order"]
theorem sc_Reader_init : FnScope N_Reader_init ["self", "mark", "states", "inner", "order"] (defScope s_Reader_init) := ⟨rfl, rfl, rfl, by decide +kernel, rfl, by decide +kernel, by decide +kernel⟩
abbrev N_Reader_len : List Str := ["self"]
theorem sc_Reader_len : FnScope N_Reader_len ["self"] (defScope s_Reader_len) := ⟨rfl, rfl, rfl, by decide +kernel, rfl, by decide +kernel, by decide +kernel⟩
abbrev N_number_of : List Str := ["word", "digits", "sign"]
theorem sc_number_of : FnScope N_number_of ["word"] (defScope s_number_of) := ⟨rfl, rfl, rfl, by decide +kernel, rfl, by decide +kernel, by decide +kernel⟩
abbrev N_read_reader : List Str := ["text", "lines", "rest", "mark", "inner", "order", "states", "at", "line", "state"]
theorem sc_read_reader : FnScope N_read_reader ["text"] (defScope s_read_reader) := ⟨rfl, rfl, rfl, by decide +kernel, rfl, by decide +kernel, by decide +kernel⟩
abbrev N__split : List Str := ["text", "lines", "rest"]
theorem sc__split : FnScope N__split ["text"] (defScope s__split) := ⟨rfl, rfl, rfl, by decide +kernel, rfl, by decide +kernel, by decide +kernel⟩
abbrev N__read_head : List Str := ["line", "words"]
theorem sc__read_head : FnScope N__read_head ["line"] (defScope s__read_head) := ⟨rfl, rfl, rfl, by decide +kernel, rfl, by decide +kernel, by decide +kernel⟩
abbrev N__state_of : List Str := ["line", "words", "size", "full", "thin", "asks", "word"]
theorem sc__state_of : FnScope N__state_of ["line"] (defScope s__state_of) := ⟨rfl, rfl, rfl, by decide +kernel, rfl, by decide +kernel, by decide +kernel⟩
abbrev N__check_goals : List Str := ["states", "at", "_", "full", "thin", "following"]
theorem sc__check_goals : FnScope N__check_goals ["states"] (defScope s__check_goals) := ⟨rfl, rfl, rfl, by decide +kernel, rfl, by decide +kernel, by decide +kernel⟩
abbrev N_open : List Str := ["_law_script"]
theorem sc_open : FnScope N_open ["_law_script"] (defScope s_open) := ⟨rfl, rfl, rfl, by decide +kernel, rfl, by decide +kernel, by decide +kernel⟩
abbrev N_draw : List Str := ["_law_bag", "_law_many", "_law_cell", "_law_digit", "_law_seed"]
theorem sc_draw : FnScope N_draw ["_law_bag", "_law_many"] (defScope s_draw) := ⟨rfl, rfl, rfl, by decide +kernel, rfl, by decide +kernel, by decide +kernel⟩
abbrev N_of : List Str := ["_law_bag", "_law_things"]
theorem sc_of : FnScope N_of ["_law_bag", "_law_things"] (defScope s_of) := ⟨rfl, rfl, rfl, by decide +kernel, rfl, by decide +kernel, by decide +kernel⟩
abbrev N_like : List Str := ["_law_found", "_law_due", "_law_one", "_law_other"]
theorem sc_like : FnScope N_like ["_law_found", "_law_due"] (defScope s_like) := ⟨rfl, rfl, rfl, by decide +kernel, rfl, by decide +kernel, by decide +kernel⟩
abbrev N_field : List Str := ["_law_e"]
theorem sc_field : FnScope N_field ["_law_e"] (defScope s_field) := ⟨rfl, rfl, rfl, by decide +kernel, rfl, by decide +kernel, by decide +kernel⟩
abbrev N_try : List Str := ["_law_ask", "_law_e"]
theorem sc_try : FnScope N_try ["_law_ask"] (defScope s_try) := ⟨rfl, rfl, rfl, by decide +kernel, rfl, by decide +kernel, by decide +kernel⟩
abbrev N_state : List Str := ["_law_bag", "_law_parts", "_law_many", "_law_size", "_law_asks", "_law_goals", "_law_part"]
theorem sc_state : FnScope N_state ["_law_bag", "_law_parts", "_law_many"] (defScope s_state) := ⟨rfl, rfl, rfl, by decide +kernel, rfl, by decide +kernel, by decide +kernel⟩
abbrev N_spec : List Str := ["_law_bag", "_law_parts", "_law_most", "_law_many", "_law_mark", "_law_inner", "_law_order", "_law_k"]
theorem sc_spec : FnScope N_spec ["_law_bag", "_law_parts", "_law_most"] (defScope s_spec) := ⟨rfl, rfl, rfl, by decide +kernel, rfl, by decide +kernel, by decide +kernel⟩
abbrev N_good_spec : List Str := ["_law_bag", "_law_parts", "_law_most", "_law_many", "_law_ways", "_law_mark", "_law_inner", "_law_order", "_law_states", "_law_k", "_law_size", "_law_asks", "_law_part"]
theorem sc_good_spec : FnScope N_good_spec ["_law_bag", "_law_parts", "_law_most"] (defScope s_good_spec) := ⟨rfl, rfl, rfl, by decide +kernel, rfl, by decide +kernel, by decide +kernel⟩
abbrev N_any_spec : List Str := ["_law_bag", "_law_parts", "_law_most"]
theorem sc_any_spec : FnScope N_any_spec ["_law_bag", "_law_parts", "_law_most"] (defScope s_any_spec) := ⟨rfl, rfl, rfl, by decide +kernel, rfl, by decide +kernel, by decide +kernel⟩
abbrev N_goal_word : List Str := ["_law_goal"]
theorem sc_goal_word : FnScope N_goal_word ["_law_goal"] (defScope s_goal_word) := ⟨rfl, rfl, rfl, by decide +kernel, rfl, by decide +kernel, by decide +kernel⟩
abbrev N_reader_lines : List Str := ["_law_spec_here", "_law_found", "_law_size", "_law_asks", "_law_full", "_law_thin", "_law_words", "_law_ask"]
theorem sc_reader_lines : FnScope N_reader_lines ["_law_spec_here"] (defScope s_reader_lines) := ⟨rfl, rfl, rfl, by decide +kernel, rfl, by decide +kernel, by decide +kernel⟩
abbrev N_text : List Str := ["_law_lines", "_law_line"]
theorem sc_text : FnScope N_text ["_law_lines"] (defScope s_text) := ⟨rfl, rfl, rfl, by decide +kernel, rfl, by decide +kernel, by decide +kernel⟩
abbrev N_far_line : List Str := ["_law_spec_here", "_law_slot", "_law_goal", "_law_size", "_law_asks", "_law_full", "_law_thin", "_law_goals", "_law_ask"]
theorem sc_far_line : FnScope N_far_line ["_law_spec_here", "_law_slot", "_law_goal"] (defScope s_far_line) := ⟨rfl, rfl, rfl, by decide +kernel, rfl, by decide +kernel, by decide +kernel⟩
abbrev N_goals_so : List Str := ["_law_bag", "_law_spec_here", "_law_lines", "_law_at", "_law_many", "_law_goal", "_law_far", "_law_odd", "_law_bent", "_law_texts", "_law_long", "_law_one", "_law_due"]
theorem sc_goals_so : FnScope N_goals_so ["_law_bag", "_law_spec_here", "_law_lines", "_law_at"] (defScope s_goals_so) := ⟨rfl, rfl, rfl, by decide +kernel, rfl, by decide +kernel, by decide +kernel⟩
abbrev N_law : List Str := ["_law_script", "_law_bag", "_law_turn", "_law_parts", "_law_spec_here", "_law_lines", "_law_many", "_law_at", "_law_head", "_law_line", "_law_wide", "_law_text_here", "_law_rows", "_law_texts", "_law_found", "_law_seven", "_law_odd", "_law_one", "_law_k"]
theorem sc_law : FnScope N_law ["_law_script"] (defScope s_law) := ⟨rfl, rfl, rfl, by decide +kernel, rfl, by decide +kernel, by decide +kernel⟩
set_option genInjectivity false in
set_option genSizeOfSpec false in
structure Txt (K : PySem.W.Frag) (mg : Str → Option Value) where
  f_copied : Addr
  fd_copied : FuncData
  F_copied : Fun K "copied" "copied" s_copied f_copied fd_copied
  g_copied : mg "copied" = some (.ref f_copied)
  k_copied : PySem.W.keepIn K (.ref f_copied) = true
  bd_copied : Binds K fd_copied ["value"] []
  f_InvalidText_init : Addr
  fd_InvalidText_init : FuncData
  F_InvalidText_init : Fun K "__init__" "InvalidText.__init__" s_InvalidText_init f_InvalidText_init fd_InvalidText_init
  k_InvalidText_init : PySem.W.keepIn K (.ref f_InvalidText_init) = true
  bd_InvalidText_init : Binds K fd_InvalidText_init ["self", "line"] []
  f_is_whole : Addr
  fd_is_whole : FuncData
  F_is_whole : Fun K "is_whole" "is_whole" s_is_whole f_is_whole fd_is_whole
  g_is_whole : mg "is_whole" = some (.ref f_is_whole)
  k_is_whole : PySem.W.keepIn K (.ref f_is_whole) = true
  bd_is_whole : Binds K fd_is_whole ["value"] []
  f_is_number : Addr
  fd_is_number : FuncData
  F_is_number : Fun K "is_number" "is_number" s_is_number f_is_number fd_is_number
  g_is_number : mg "is_number" = some (.ref f_is_number)
  k_is_number : PySem.W.keepIn K (.ref f_is_number) = true
  bd_is_number : Binds K fd_is_number ["value", "least", "most"] []
  f__is_ask : Addr
  fd__is_ask : FuncData
  F__is_ask : Fun K "_is_ask" "_is_ask" s__is_ask f__is_ask fd__is_ask
  g__is_ask : mg "_is_ask" = some (.ref f__is_ask)
  k__is_ask : PySem.W.keepIn K (.ref f__is_ask) = true
  bd__is_ask : Binds K fd__is_ask ["value"] []
  f__are_asks : Addr
  fd__are_asks : FuncData
  F__are_asks : Fun K "_are_asks" "_are_asks" s__are_asks f__are_asks fd__are_asks
  g__are_asks : mg "_are_asks" = some (.ref f__are_asks)
  k__are_asks : PySem.W.keepIn K (.ref f__are_asks) = true
  bd__are_asks : Binds K fd__are_asks ["value"] []
  f__is_following : Addr
  fd__is_following : FuncData
  F__is_following : Fun K "_is_following" "_is_following" s__is_following f__is_following fd__is_following
  g__is_following : mg "_is_following" = some (.ref f__is_following)
  k__is_following : PySem.W.keepIn K (.ref f__is_following) = true
  bd__is_following : Binds K fd__is_following ["value", "many"] []
  f__is_state : Addr
  fd__is_state : FuncData
  F__is_state : Fun K "is_state" "is_state" s__is_state f__is_state fd__is_state
  g__is_state : mg "is_state" = some (.ref f__is_state)
  k__is_state : PySem.W.keepIn K (.ref f__is_state) = true
  bd__is_state : Binds K fd__is_state ["value", "many"] []
  f_check_orders : Addr
  fd_check_orders : FuncData
  F_check_orders : Fun K "check_orders" "check_orders" s_check_orders f_check_orders fd_check_orders
  g_check_orders : mg "check_orders" = some (.ref f_check_orders)
  k_check_orders : PySem.W.keepIn K (.ref f_check_orders) = true
  bd_check_orders : Binds K fd_check_orders ["inner", "order"] []
  f__check_states : Addr
  fd__check_states : FuncData
  F__check_states : Fun K "_check_states" "_check_states" s__check_states f__check_states fd__check_states
  g__check_states : mg "_check_states" = some (.ref f__check_states)
  k__check_states : PySem.W.keepIn K (.ref f__check_states) = true
  bd__check_states : Binds K fd__check_states ["states"] []
  f_Reader_init : Addr
  fd_Reader_init : FuncData
  F_Reader_init : Fun K "__init__" "Reader.__init__" s_Reader_init f_Reader_init fd_Reader_init
  k_Reader_init : PySem.W.keepIn K (.ref f_Reader_init) = true
  FD_Reader_init : FunD K "__init__" "Reader.__init__" (defArgs s_Reader_init) (defBody s_Reader_init) (defScope s_Reader_init) [] [("inner", .str "up"), ("order", .str "number")] f_Reader_init fd_Reader_init
  f_Reader_len : Addr
  fd_Reader_len : FuncData
  F_Reader_len : Fun K "__len__" "Reader.__len__" s_Reader_len f_Reader_len fd_Reader_len
  k_Reader_len : PySem.W.keepIn K (.ref f_Reader_len) = true
  bd_Reader_len : Binds K fd_Reader_len ["self"] []
  f_number_of : Addr
  fd_number_of : FuncData
  F_number_of : Fun K "number_of" "number_of" s_number_of f_number_of fd_number_of
  g_number_of : mg "number_of" = some (.ref f_number_of)
  k_number_of : PySem.W.keepIn K (.ref f_number_of) = true
  bd_number_of : Binds K fd_number_of ["word"] []
  f_read_reader : Addr
  fd_read_reader : FuncData
  F_read_reader : Fun K "read_reader" "read_reader" s_read_reader f_read_reader fd_read_reader
  g_read_reader : mg "read_reader" = some (.ref f_read_reader)
  k_read_reader : PySem.W.keepIn K (.ref f_read_reader) = true
  bd_read_reader : Binds K fd_read_reader ["text"] []
  f__split : Addr
  fd__split : FuncData
  F__split : Fun K "_split" "_split" s__split f__split fd__split
  g__split : mg "_split" = some (.ref f__split)
  k__split : PySem.W.keepIn K (.ref f__split) = true
  bd__split : Binds K fd__split ["text"] []
  f__read_head : Addr
  fd__read_head : FuncData
  F__read_head : Fun K "_read_head" "_read_head" s__read_head f__read_head fd__read_head
  g__read_head : mg "_read_head" = some (.ref f__read_head)
  k__read_head : PySem.W.keepIn K (.ref f__read_head) = true
  bd__read_head : Binds K fd__read_head ["line"] []
  f__state_of : Addr
  fd__state_of : FuncData
  F__state_of : Fun K "_state_of" "_state_of" s__state_of f__state_of fd__state_of
  g__state_of : mg "_state_of" = some (.ref f__state_of)
  k__state_of : PySem.W.keepIn K (.ref f__state_of) = true
  bd__state_of : Binds K fd__state_of ["line"] []
  f__check_goals : Addr
  fd__check_goals : FuncData
  F__check_goals : Fun K "_check_goals" "_check_goals" s__check_goals f__check_goals fd__check_goals
  g__check_goals : mg "_check_goals" = some (.ref f__check_goals)
  k__check_goals : PySem.W.keepIn K (.ref f__check_goals) = true
  bd__check_goals : Binds K fd__check_goals ["states"] []
  f_open : Addr
  fd_open : FuncData
  F_open : Fun K "_law_open" "_law_open" s_open f_open fd_open
  g_open : mg "_law_open" = some (.ref f_open)
  k_open : PySem.W.keepIn K (.ref f_open) = true
  bd_open : Binds K fd_open ["_law_script"] []
  f_draw : Addr
  fd_draw : FuncData
  F_draw : Fun K "_law_draw" "_law_draw" s_draw f_draw fd_draw
  g_draw : mg "_law_draw" = some (.ref f_draw)
  k_draw : PySem.W.keepIn K (.ref f_draw) = true
  bd_draw : Binds K fd_draw ["_law_bag", "_law_many"] []
  f_of : Addr
  fd_of : FuncData
  F_of : Fun K "_law_of" "_law_of" s_of f_of fd_of
  g_of : mg "_law_of" = some (.ref f_of)
  k_of : PySem.W.keepIn K (.ref f_of) = true
  bd_of : Binds K fd_of ["_law_bag", "_law_things"] []
  f_like : Addr
  fd_like : FuncData
  F_like : Fun K "_law_like" "_law_like" s_like f_like fd_like
  g_like : mg "_law_like" = some (.ref f_like)
  k_like : PySem.W.keepIn K (.ref f_like) = true
  bd_like : Binds K fd_like ["_law_found", "_law_due"] []
  f_field : Addr
  fd_field : FuncData
  F_field : Fun K "_law_field" "_law_field" s_field f_field fd_field
  g_field : mg "_law_field" = some (.ref f_field)
  k_field : PySem.W.keepIn K (.ref f_field) = true
  bd_field : Binds K fd_field ["_law_e"] []
  f_try : Addr
  fd_try : FuncData
  F_try : Fun K "_law_try" "_law_try" s_try f_try fd_try
  g_try : mg "_law_try" = some (.ref f_try)
  k_try : PySem.W.keepIn K (.ref f_try) = true
  bd_try : Binds K fd_try ["_law_ask"] []
  f_state : Addr
  fd_state : FuncData
  F_state : Fun K "_law_state" "_law_state" s_state f_state fd_state
  g_state : mg "_law_state" = some (.ref f_state)
  k_state : PySem.W.keepIn K (.ref f_state) = true
  bd_state : Binds K fd_state ["_law_bag", "_law_parts", "_law_many"] []
  f_spec : Addr
  fd_spec : FuncData
  F_spec : Fun K "_law_spec" "_law_spec" s_spec f_spec fd_spec
  g_spec : mg "_law_spec" = some (.ref f_spec)
  k_spec : PySem.W.keepIn K (.ref f_spec) = true
  bd_spec : Binds K fd_spec ["_law_bag", "_law_parts", "_law_most"] []
  f_good_spec : Addr
  fd_good_spec : FuncData
  F_good_spec : Fun K "_law_good_spec" "_law_good_spec" s_good_spec f_good_spec fd_good_spec
  g_good_spec : mg "_law_good_spec" = some (.ref f_good_spec)
  k_good_spec : PySem.W.keepIn K (.ref f_good_spec) = true
  bd_good_spec : Binds K fd_good_spec ["_law_bag", "_law_parts", "_law_most"] []
  f_any_spec : Addr
  fd_any_spec : FuncData
  F_any_spec : Fun K "_law_any_spec" "_law_any_spec" s_any_spec f_any_spec fd_any_spec
  g_any_spec : mg "_law_any_spec" = some (.ref f_any_spec)
  k_any_spec : PySem.W.keepIn K (.ref f_any_spec) = true
  bd_any_spec : Binds K fd_any_spec ["_law_bag", "_law_parts", "_law_most"] []
  f_goal_word : Addr
  fd_goal_word : FuncData
  F_goal_word : Fun K "_law_goal_word" "_law_goal_word" s_goal_word f_goal_word fd_goal_word
  g_goal_word : mg "_law_goal_word" = some (.ref f_goal_word)
  k_goal_word : PySem.W.keepIn K (.ref f_goal_word) = true
  bd_goal_word : Binds K fd_goal_word ["_law_goal"] []
  f_reader_lines : Addr
  fd_reader_lines : FuncData
  F_reader_lines : Fun K "_law_reader_lines" "_law_reader_lines" s_reader_lines f_reader_lines fd_reader_lines
  g_reader_lines : mg "_law_reader_lines" = some (.ref f_reader_lines)
  k_reader_lines : PySem.W.keepIn K (.ref f_reader_lines) = true
  bd_reader_lines : Binds K fd_reader_lines ["_law_spec_here"] []
  f_text : Addr
  fd_text : FuncData
  F_text : Fun K "_law_text" "_law_text" s_text f_text fd_text
  g_text : mg "_law_text" = some (.ref f_text)
  k_text : PySem.W.keepIn K (.ref f_text) = true
  bd_text : Binds K fd_text ["_law_lines"] []
  f_far_line : Addr
  fd_far_line : FuncData
  F_far_line : Fun K "_law_far_line" "_law_far_line" s_far_line f_far_line fd_far_line
  g_far_line : mg "_law_far_line" = some (.ref f_far_line)
  k_far_line : PySem.W.keepIn K (.ref f_far_line) = true
  bd_far_line : Binds K fd_far_line ["_law_spec_here", "_law_slot", "_law_goal"] []
  f_goals_so : Addr
  fd_goals_so : FuncData
  F_goals_so : Fun K "_law_goals_so" "_law_goals_so" s_goals_so f_goals_so fd_goals_so
  g_goals_so : mg "_law_goals_so" = some (.ref f_goals_so)
  k_goals_so : PySem.W.keepIn K (.ref f_goals_so) = true
  bd_goals_so : Binds K fd_goals_so ["_law_bag", "_law_spec_here", "_law_lines", "_law_at"] []
  f_law : Addr
  fd_law : FuncData
  F_law : Fun K "law" "law" s_law f_law fd_law
  g_law : mg "law" = some (.ref f_law)
  k_law : PySem.W.keepIn K (.ref f_law) = true
  bd_law : Binds K fd_law ["_law_script"] []
  b_all : mg "all" = none
  b_any : mg "any" = none
  b_bool : mg "bool" = none
  b_enumerate : mg "enumerate" = none
  b_int : mg "int" = none
  b_isinstance : mg "isinstance" = none
  b_len : mg "len" = none
  b_list : mg "list" = none
  b_range : mg "range" = none
  b_str : mg "str" = none
  b_tuple : mg "tuple" = none
  b_zip : mg "zip" = none
  t__MOST_SIZE : Tok
  g__MOST_SIZE : mg "_MOST_SIZE" = some (.int 9 t__MOST_SIZE)
  t__MOST_DIGITS : Tok
  g__MOST_DIGITS : mg "_MOST_DIGITS" = some (.int 30 t__MOST_DIGITS)
  c_Table : Addr
  g_Table : mg "Table" = some (.ref c_Table)
  cf_Table : ClsF K c_Table
  mc_Table : Value
  cr_Table : ClX.CRead K c_Table mc_Table
  cv_Table_MOST_PARTS : ∃ u, ClX.CVal K c_Table mc_Table "MOST_PARTS" (.int 4) u
  c_Reader : Addr
  g_Reader : mg "Reader" = some (.ref c_Reader)
  cf_Reader : ClsF K c_Reader
  mk_Reader : Mk K c_Reader f_Reader_init
  dn_Reader_len : PySem.W.findIn K (.ref c_Reader) "__len__" = some (some (.ref f_Reader_len))
  fn_Reader_len : PySem.W.isFn K (.ref f_Reader_len) = true
  na_Reader_mark : NoAttr K c_Reader "_mark"
  na_Reader_inner : NoAttr K c_Reader "_inner"
  na_Reader_order : NoAttr K c_Reader "_order"
  na_Reader_states : NoAttr K c_Reader "_states"
  mc_Reader : Value
  cr_Reader : ClX.CRead K c_Reader mc_Reader
  cv_Reader_MOST_STATES : ∃ u, ClX.CVal K c_Reader mc_Reader "MOST_STATES" (.int 6) u
  cv_Reader_MOST_ASK : ∃ u, ClX.CVal K c_Reader mc_Reader "MOST_ASK" (.int 9) u
  ct_Reader_MARKS : ∃ a u, ClX.CVal K c_Reader mc_Reader "MARKS" (.ref a) u ∧ ∀ H, SqT K H a [.str "key", .str "from", .str "row", .str "each", .str "count", .str "rest"]
  ct_Reader_INNER : ∃ a u, ClX.CVal K c_Reader mc_Reader "INNER" (.ref a) u ∧ ∀ H, SqT K H a [.str "up", .str "down"]
  ct_Reader_ORDERS : ∃ a u, ClX.CVal K c_Reader mc_Reader "ORDERS" (.ref a) u ∧ ∀ H, SqT K H a [.str "number", .str "back", .str "part"]
  c_PartError : Addr
  g_PartError : mg "PartError" = some (.ref c_PartError)
  c_Missing : Addr
  g_Missing : mg "Missing" = some (.ref c_Missing)
  c_NothingLeft : Addr
  g_NothingLeft : mg "NothingLeft" = some (.ref c_NothingLeft)
  c_InvalidText : Addr
  g_InvalidText : mg "InvalidText" = some (.ref c_InvalidText)
  xa_InvalidText : XAll K c_InvalidText f_InvalidText_init ["code", "at", "number", "name", "line", "most", "first", "limit", "given"]
  ex_InvalidText : PySem.W.exmAny K (.ref c_InvalidText) [.ref c_PartError, .ref c_Missing, .ref c_NothingLeft] = some true
  cA_goals_so : Addr
  pA_goals_so : Addr
  FC_goals_so : FunC K "_law_goals_so" "_law_goals_so" s_goals_so f_goals_so cA_goals_so fd_goals_so
  cL : Addr
  pL : Addr
  pne_goals_so : pL ≠ pA_goals_so
  FC_law : FunC K "law" "law" s_law f_law cL fd_law


def gkw_Reader_init_inner_order {α : Type} (us ws : List α) : List α := match us, ws with | [a0, a1, a2], [b0, b1] => [a0, a1, a2, b0, b1] | _, _ => []
theorem kw_Reader_init_inner_order {K : PySem.W.Frag} {mg : Str → Option Value} (T : Txt K mg) : KBn K T.fd_Reader_init ["self", "mark", "states", "inner", "order"] 3 ["inner", "order"] gkw_Reader_init_inner_order gkw_Reader_init_inner_order := by
  refine (FunD.kbinds0 (ps := ["self", "mark", "states", "inner", "order"]) T.FD_Reader_init 3 ["inner", "order"] [] (fun us _ ws => gkw_Reader_init_inner_order us ws) (by simp) (by simp) (fun {vs mz zs us mv ws} r _ rz => ?_) (fun D doc pm an cdv ct us mv ws h1 h2 h3 => ?_)).elim fun mv h => h
  ·
    cases r with
    | nil => exact .nil
    | cons a0 r =>
      cases r with
      | nil => exact .nil
      | cons a1 r =>
        cases r with
        | nil => exact .nil
        | cons a2 r =>
          cases r with
          | nil =>
            cases rz with
            | nil => exact .nil
            | cons b0 rz =>
              cases rz with
              | nil => exact .nil
              | cons b1 rz =>
                cases rz with
                | nil => exact (.cons a0 (.cons a1 (.cons a2 (.cons b0 (.cons b1 .nil)))))
                | cons b2 rz => exact .nil
          | cons a3 r => exact .nil
  · match us, ws, h1, h3 with
    | [_, _, _], [_, _], _, _ => exact rfl
theorem krkw_Reader_init_inner_order (K : PySem.W.Frag) (H : Hp) (vs zs : List V) (ds es : List D) (r : RepL K H vs ds) (rz : RepL K H zs es) : RepL K H (gkw_Reader_init_inner_order vs zs) (gkw_Reader_init_inner_order ds es) := by
  cases r with
  | nil => exact .nil
  | cons a0 r =>
    cases r with
    | nil => exact .nil
    | cons a1 r =>
      cases r with
      | nil => exact .nil
      | cons a2 r =>
        cases r with
        | nil =>
          cases rz with
          | nil => exact .nil
          | cons b0 rz =>
            cases rz with
            | nil => exact .nil
            | cons b1 rz =>
              cases rz with
              | nil => exact (.cons a0 (.cons a1 (.cons a2 (.cons b0 (.cons b1 .nil)))))
              | cons b2 rz => exact .nil
        | cons a3 r => exact .nil
def gx1 {α : Type} (us ws : List α) : List α := match us, ws with | [a, b], [] => [a, b] | _, _ => []
theorem rel_gx1 {vs zs : List V} {us ws : List Value} (r : Vals vs us) (rz : Vals zs ws) : Vals (gx1 vs zs) (gx1 us ws) := by
  match r, rz with
  | .cons r1 (.cons r2 .nil), .nil => exact .cons r1 (.cons r2 .nil)
  | .nil, .nil => exact .nil
  | .cons _ .nil, .nil => exact .nil
  | .cons _ (.cons _ (.cons _ _)), .nil => exact .nil
  | .nil, .cons _ _ => exact .nil
  | .cons _ .nil, .cons _ _ => exact .nil
  | .cons _ (.cons _ .nil), .cons _ _ => exact .nil
  | .cons _ (.cons _ (.cons _ _)), .cons _ _ => exact .nil
theorem kxp_InvalidText {K : PySem.W.Frag} {mg : Str → Option Value} (T : Txt K mg) : KBn K T.fd_InvalidText_init ["self", "line"] 2 [] gx1 gx1 := by
  obtain ⟨oc, od, kV, doc, pm, an, cdv, ct, osl, hfd, lk, hcd⟩ := T.F_InvalidText_init.ex
  refine ⟨fun s us ws _ h1 h2 => ?_, fun {vs us zs ws} r rz => ?_⟩
  · rw [hfd]
    match us, ws, h1, h2 with
    | [_, _], [], _, _ => exact .of_eq rfl
  · exact rel_gx1 r rz
/-! ### the draws -/
theorem asg_cut {te : TE} {g : TG} {D : Ends} {σ : L2.St} {H : Hp} (h : ∀ G : V → Hp → Prop, G = (fun x H1 => g x σ H1 D.nx) → te σ H G) : tAsg te g D σ H := h _ rfl
theorem seq_in {t u : TS} {D : Ends} {σ : L2.St} {H : Hp} (h : t { D with nx := u D } σ H) : tSeq t u D σ H := h
theorem pm1 : (0 : Int) < 2147483587 := by decide
theorem pm2 : (0 : Int) < 2147483549 := by decide
theorem seq_cut {t u : TS} {D : Ends} {σ : L2.St} {H : Hp} (h : ∀ G : L2.St → Hp → Prop, G = u D → t { D with nx := G } σ H) : tSeq t u D σ H := h _ rfl
def preDraw : List D → Prop := fun ds => ∃ m : Int, ds = [.int m] ∧ 0 < m ∧ m < 1073741824
def postDraw : List D → D → Prop := fun ds d => ∃ m r : Int, ds = [.int m] ∧ d = .int r ∧ 0 ≤ r ∧ r < m
section
variable {K : PySem.W.Frag} {σ : L2.St} {H : Hp} {b c : Addr} {Q : VK} {i z s t : Int}
theorem bag_ix {xs : List V} {k : Int} {v : V} (h0 : σ[0]? = some (some (.ref b))) (hb : H b = some (.lst xs)) (hv : atI xs k = some v) (q : Q v H) : tOp (rIxL K) (tVar 0) (tC (.int k)) σ H Q :=
  ⟨_, h0, _, xs, k, v, rfl, rfl, SqL.of hb, hv, q⟩
theorem bag_set {xs : List V} {k : Int} {j : Nat} {v : V} {R : L2.St → Hp → Prop} (h0 : σ[0]? = some (some (.ref b))) (hb : H b = some (.lst xs)) (hj : ixN xs.length k = some j) (q : R σ (upd H b (.lst (xs.set j v)))) : gSub (tVar 0) (tC (.int k)) rSetL v σ H R :=
  ⟨_, h0, _, xs, k, j, rfl, rfl, hb, hj, q⟩
end
theorem ok_draw {P : Program} {w : World} {K : PySem.W.Frag} {mg : Str → Option Value} {base : Heap} (T : Txt K mg) : FnOk P w K mg base CX0 2 T.f_draw T.fd_draw ["_law_bag", "_law_many"] (spB K preDraw postDraw) := by
  refine T.F_draw.ok sc_draw (spB_len fun ds ⟨m, e, _⟩ => by rw [e]; rfl) (fun cdv A outer s H vs Q E hr h => ?_)
  refine ⟨_, (pss_cons (ps_if (PW.pt (pw_and (pt_cmpR op_eq (pe_ix (ixL K) (pv 0) pe_int (fun _ _ => rfl)) pe_int (nomark _)) (pw_and1 (pt_cmpR op_lt (pe_ix (ixL K) (pv 0) pe_int (fun _ _ => rfl)) (pe_callB (callLen K) (by rfl) T.b_len (by decide +kernel) (pa_cons (pe_ix (ixL K) (pv 0) pe_int (fun _ _ => rfl)) pa_nil)) (nomark _))))) (pss_cons (ps_set (i := 2) sc_draw.nd rfl (Or.inl rfl) (pe_ix (ixL K) (pe_ix (ixL K) (pv 0) pe_int (fun _ _ => rfl)) (pe_ix (ixL K) (pv 0) pe_int (fun _ _ => rfl)) (fun _ _ => rfl)))
      (pss_cons (ps_asg (pe_op op_add (pe_ix (ixL K) (pv 0) pe_int (fun _ _ => rfl)) pe_int) (pg_sub (pv 0) pe_int set_list))
      (pss_cons (ps_asg (pe_ifExp (pt_cmpR op_ge (pv 2) (pe_op op_pow pe_int pe_int) (nomark _)) (pv 2) pe_int) (pg_sub (pv 0) pe_int set_list))
      (pss_one (ps_asg (pe_op op_mod (pe_callTy call_int1 (by rfl) T.b_int (by decide +kernel) (pa_cons (pe_op op_add (pe_op op_add (pe_op op_mul (pe_ix (ixL K) (pv 0) pe_int (fun _ _ => rfl)) pe_int) (pe_op op_mul (pe_op op_mod (pe_callTy call_int1 (by rfl) T.b_int (by decide +kernel) (pa_cons (pv 2) pa_nil)) pe_int) pe_int)) pe_int) pa_nil)) pe_int) (pg_sub (pv 0) pe_int set_list)))))) pss_nil)
    (pss_cons (ps_if (pt_cmpR op_gt (pe_ix (ixL K) (pv 0) pe_int (fun _ _ => rfl)) pe_int (nomark _)) (pss_cons (ps_set (i := 3) sc_draw.nd rfl (Or.inl rfl) (pe_op op_mod (pe_callTy call_int1 (by rfl) T.b_int (by decide +kernel) (pa_cons (pe_ix (ixL K) (pv 0) pe_int (fun _ _ => rfl)) pa_nil)) (pv 1)))
      (pss_cons (ps_asg (pe_op op_fdiv (pe_ix (ixL K) (pv 0) pe_int (fun _ _ => rfl)) (pv 1)) (pg_sub (pv 0) pe_int set_list))
      (pss_one (ps_ret (pv 3))))) pss_nil)
    (pss_cons (ps_asg (pe_op op_add (pe_ix (ixL K) (pv 0) pe_int (fun _ _ => rfl)) pe_int) (pg_sub (pv 0) pe_int set_list))
    (pss_cons (ps_set (i := 4) sc_draw.nd rfl (Or.inl rfl) (pe_ix (ixL K) (pv 0) pe_int (fun _ _ => rfl)))
    (pss_cons (ps_asg (pe_op op_mod (pe_callTy call_int1 (by rfl) T.b_int (by decide +kernel) (pa_cons (pe_op op_add (pe_op op_add (pe_op op_add (pe_op op_mul (pv 4) (pv 4)) (pe_op op_mul pe_int (pv 4))) (pe_op op_mul pe_int (pe_ix (ixL K) (pv 0) pe_int (fun _ _ => rfl)))) pe_int) pa_nil)) pe_int) (pg_sub (pv 0) pe_int set_list))
    (pss_one (ps_ret (pe_op op_mod (pe_callTy call_int1 (by rfl) T.b_int (by decide +kernel) (pa_cons (pe_op op_add (pe_op op_add (pe_op op_fdiv (pe_ix (ixL K) (pv 0) pe_int (fun _ _ => rfl)) pe_int) (pe_op op_mul (pv 4) pe_int)) (pe_ix (ixL K) (pv 0) pe_int (fun _ _ => rfl))) pa_nil)) (pv 1))))))))), ?_⟩
  obtain ⟨M, b, c, ws, ds, rfl, al, mb, ba, r, ⟨m, rfl, m0, m1⟩, q⟩ := h
  cases r with
  | cons r1 r2 =>
  cases r1
  cases r2
  obtain ⟨ns, i, z, sd, t, hb, nc, hc, hi, hn, z0, s0, s1, t0⟩ := ba
  -- what is behind the first if
  refine seq_cut fun G hG => ?_
  have rest : ∀ (x : Option V) (H1 : Hp) (i' : Nat) (z' s' : Int), H1 b = some (.lst [.ref c, .int (i' : Nat), .int z', .int s', .int t]) → (∀ a, a ≠ b → H1 a = H a) → i' ≤ ns.length → 0 ≤ z' → 0 ≤ s' → s' < 2147483587 → G [some (.ref b), some (.int m), x, none, none] H1 := by
    subst hG
    intro x H1 i' z' s' hb1 hk hi' z0' s0' s1'
    have hfin : ∀ (H2 : Hp) (z2 s2 t2 r : Int), H2 b = some (.lst [.ref c, .int (i' : Nat), .int z2, .int s2, .int t2]) → (∀ a, a ≠ b → H2 a = H a) → 0 ≤ z2 → 0 ≤ s2 → s2 < 2147483587 → 0 ≤ t2 → 0 ≤ r → r < m → Q (.int r) H2 := by
      intro H2 z2 s2 t2 r hb2 hk2 a1 a2 a3 a4 a5 a6
      refine q (.int r) (.int r) H2 ⟨m, r, rfl, rfl, a5, a6⟩ (fun a o n h => ?_) ⟨ns, i', z2, s2, t2, hb2, nc, by rw [hk2 c nc]; exact hc, hi', hn, a1, a2, a3, a4⟩ (.int r)
      rw [hk2 a fun e => n (by rw [e])]
      exact h
    refine bag_ix (k := 2) rfl hb1 rfl ⟨_, _, rfl, rfl, _, rfl, ?_⟩
    refine ite2 (fun hz => ?_) (fun hz => ?_)
    · have hz' : 0 < z' := of_decide_eq_true hz
      refine bag_ix rfl hb1 rfl (.inl ⟨_, rfl, _, rfl, _, _, rfl, rfl, m0, ?_⟩)
      refine bag_ix rfl hb1 rfl ⟨_, rfl, _, _, rfl, rfl, ⟨m0, m1⟩, ?_⟩
      refine bag_set rfl hb1 rfl ?_
      refine ⟨_, rfl, ?_⟩
      refine hfin _ (z' / m) s' t (z' % m) upd_same (fun a n => by rw [upd_ne n]; exact hk a n) (Int.ediv_nonneg z0' (Int.le_of_lt m0)) s0' s1' t0 (Int.emod_nonneg _ (Int.ne_of_gt m0)) (Int.emod_lt_of_pos _ m0)
    · refine bag_ix rfl hb1 rfl ⟨_, _, rfl, rfl, ?_⟩
      refine bag_set rfl hb1 rfl ?_
      refine bag_ix rfl upd_same rfl ?_
      refine ⟨_, rfl, _, rfl, _, _, rfl, rfl, .inl ⟨by omega, by omega⟩, ?_⟩
      refine ⟨_, rfl, _, _, rfl, rfl, .inl ⟨by decide, by decide⟩, _, _, rfl, rfl, ?_⟩
      refine bag_ix rfl upd_same rfl ⟨_, _, rfl, rfl, .inl ⟨by decide, by decide⟩, _, _, rfl, rfl, ?_⟩
      refine ⟨_, _, rfl, rfl, .inl ⟨_, rfl, _, _, rfl, rfl, pm1, ?_⟩⟩
      refine bag_set rfl upd_same rfl ?_
      refine bag_ix rfl upd_same rfl ⟨_, _, rfl, rfl, ⟨by decide, by decide⟩, ?_⟩
      refine ⟨_, rfl, _, _, rfl, rfl, .inr ⟨by decide, by decide⟩, _, _, rfl, rfl, ?_⟩
      refine bag_ix rfl upd_same rfl ⟨_, _, rfl, rfl, .inl ⟨_, rfl, _, rfl, _, _, rfl, rfl, m0, ?_⟩⟩
      refine hfin _ z' _ (t + 1) _ upd_same (fun a n => by rw [upd_ne n, upd_ne n]; exact hk a n) z0' (Int.emod_nonneg _ (by decide)) (Int.emod_lt_of_pos _ pm1) (by omega) (Int.emod_nonneg _ (Int.ne_of_gt m0)) (Int.emod_lt_of_pos _ m0)
  refine bag_ix rfl hb rfl ⟨rfl, _, rfl, ?_⟩
  refine ite2 (fun hz => ?_) (fun hz => ?_)
  · refine bag_ix rfl hb rfl ?_
    refine bag_ix rfl hb rfl ⟨_, ns.length, rfl, .inl ⟨_, SqL.of hc, by rw [List.length_map]⟩, _, _, rfl, rfl, _, rfl, ?_⟩
    refine ite2 (fun hl => ?_) (fun hl => rest none H i z sd hb (fun a _ => rfl) hi z0 s0 s1)
    have hl' : i < ns.length := by
      have := of_decide_eq_true hl
      omega
    have hat : atI (ns.map V.int) (i : Int) = some (.int (ns[i])) := atI_nat (by simp [hl'])
    refine bag_ix rfl hb rfl ?_
    refine bag_ix rfl hb rfl ⟨_, _, _, _, rfl, rfl, SqL.of hc, hat, ?_⟩
    generalize ns[i] = cell
    refine bag_ix rfl hb rfl ⟨_, _, rfl, rfl, ?_⟩
    refine bag_set rfl hb rfl ?_
    dsimp only
    refine seq_in ?_
    refine asg_cut fun G2 hG2 => ?_
    have go : ∀ zz : Int, 0 ≤ zz → G2 (.int zz) (upd H b (.lst [.ref c, .int ((i : Int) + 1), .int z, .int sd, .int t])) := by
      subst hG2
      intro zz hzz
      refine bag_set rfl upd_same rfl ?_
      refine bag_ix rfl upd_same rfl ⟨_, _, rfl, rfl, .inr ⟨by decide, by decide⟩, ?_⟩
      refine ⟨_, rfl, .inl ⟨_, rfl, _, _, rfl, rfl, pm2, _, _, rfl, rfl, .inr ⟨by decide, by decide⟩, _, _, rfl, rfl, _, _, rfl, rfl, .inl ⟨_, rfl, _, _, rfl, rfl, pm1, ?_⟩⟩⟩
      refine bag_set rfl upd_same rfl ?_
      exact rest _ _ (i + 1) zz _ upd_same (fun a n => by rw [upd_ne n, upd_ne n, upd_ne n]) hl' hzz (Int.emod_nonneg _ (by decide)) (Int.emod_lt_of_pos _ pm1)
    refine ⟨_, rfl, _, _, rfl, rfl, ⟨by decide, by decide, by decide⟩, _, _, rfl, rfl, _, rfl, ?_⟩
    refine ite2 (fun hz => ?_) (fun hz => ?_)
    · refine ⟨_, rfl, ?_⟩
      refine go cell ?_
      have : (10 : Int) ^ Int.toNat 18 ≤ cell := of_decide_eq_true hz
      exact Int.le_trans (by decide) this
    · exact go 0 (Int.le_refl _)
  · exact rest none H i z sd hb (fun a _ => rfl) hi z0 s0 s1
local macro_rules | `(tactic| walk_at "ev") => `(tactic| first
  | ((with_reducible refine' ev_var ?h ?_); (case h => rfl))
  | with_reducible refine ev_int ?_
  | with_reducible refine ev_bl ?_
  | with_reducible refine ev_str ?_
  | with_reducible refine ev_non ?_
  | with_reducible refine ev_ty ?_
  | with_reducible refine ev_op ?_
  | with_reducible refine ev_un ?_
  | with_reducible refine ev_chain ?_
  | with_reducible refine ev_if ?_
  | with_reducible refine ev_and ?_
  | with_reducible refine ev_or ?_
  | with_reducible refine ev_not ?_
  | with_reducible refine ev_lst ?_
  | with_reducible refine ev_tup ?_
  | with_reducible refine ea_nil ?_
  | with_reducible refine ea_cons ?_
  | with_reducible refine ev_cb ?_
  | with_reducible refine et_test ?_
  | with_reducible refine et_B ?_
  | with_reducible refine et_and ?_
  | with_reducible refine et_or ?_
  | with_reducible refine et_not ?_
  | with_reducible refine et_yes ?_
  | with_reducible refine eo_none ?_
  | with_reducible refine eo_some ?_
  | with_reducible refine ev_slS ?_
  | with_reducible refine od_int ?_
  | with_reducible refine od_bl ?_
  | with_reducible refine od_eq_int ?_
  | with_reducible refine od_ne_int ?_
  | with_reducible refine od_eq_bl ?_
  | with_reducible refine od_ne_bl ?_
  | with_reducible refine od_eq_str ?_
  | with_reducible refine od_ne_str ?_
  | with_reducible refine od_leS ?_
  | with_reducible refine ud_isN ?_
  | with_reducible refine ud_notN ?_
  | with_reducible refine do_seq ?_
  | with_reducible refine do_set ?_
  | with_reducible refine do_ret ?_
  | with_reducible refine do_retN ?_
  | with_reducible refine do_if ?_
  | with_reducible refine do_next ?_
  | with_reducible refine tg_name ?_
  | with_reducible refine tgs_nil ?_
  | with_reducible refine tgs_cons ?_)
/-! ### one of some things -/
def atD (x : D) (i : Int) : Option D := match x with
  | .lst xs => atI xs i | .tup xs => atI xs i | .str z => (atI z.cps.toList i).map fun c => .str ⟨#[c]⟩ | _ => none
theorem od_ix {K : PySem.W.Frag} {P : D → Prop} {x d : D} {i : Int} (hz : ∀ z, x = .str z → z.length ≤ 100000) (h : atD x i = some d) (p : P d) : OpD K (rIx K) x (.int i) P := fun M H v w Q al r1 r2 q => by
  cases x with
  | lst xs => exact .inl (od_ixL h p M H v w Q al r1 r2 q)
  | tup xs => exact .inr (.inl (od_ixT h p M H v w Q al r1 r2 q))
  | str z =>
    cases e : atI z.cps.toList i with
    | none =>
      have h' : (atI z.cps.toList i).map (fun c => D.str ⟨#[c]⟩) = some d := h
      rw [e] at h'
      cases h'
    | some c =>
      have h' : (atI z.cps.toList i).map (fun c => D.str ⟨#[c]⟩) = some d := h
      rw [e] at h'
      cases h'
      exact .inr (.inr (od_ixS (hz z rfl) e p M H v w Q al r1 r2 q))
  | _ => cases h
theorem atD_some {x : D} {n : Nat} {i : Int} (h : lenD x = some n) (h0 : 0 ≤ i) (h1 : i < n) : ∃ d, atD x i = some d := by
  cases x with
  | lst xs =>
    cases h
    exact ⟨_, atI_nat' h0 (by omega)⟩
  | tup xs =>
    cases h
    exact ⟨_, atI_nat' h0 (by omega)⟩
  | str z =>
    cases h
    have h2 : i.toNat < z.cps.toList.length := by
      have : z.cps.toList.length = z.length := by simp [Str.length]
      omega
    refine ⟨.str ⟨#[z.cps.toList[i.toNat]]⟩, ?_⟩
    show (atI z.cps.toList i).map _ = some _
    rw [atI_nat' h0 h2]
    rfl
  | _ => cases h
def preOf : List D → Prop := fun ds => ∃ x n, ds = [x] ∧ lenD x = some n ∧ 0 < n ∧ n ≤ 100000
def postOf : List D → D → Prop := fun ds d => ∃ x n i, ds = [x] ∧ lenD x = some n ∧ 0 ≤ i ∧ i < (n : Int) ∧ atD x i = some d
theorem ok_of {P : Program} {w : World} {K : PySem.W.Frag} {mg : Str → Option Value} {base : Heap} (T : Txt K mg) : FnOk P w K mg base CX0 4 T.f_of T.fd_of ["_law_bag", "_law_things"] (spB K preOf postOf) := by
  refine T.F_of.ok sc_of (spB_len fun ds ⟨x, n, e, _⟩ => by rw [e]; rfl) (fun cdv A outer s H vs Q E hr h => ?_)
  refine ⟨_, (pss_one (ps_ret (pe_ix (ixA K) (pv 1) (pe_call (ok_draw T) (hr.mono (by decide)) rfl T.g_draw T.k_draw T.bd_draw .nil pass0 (pa_cons (pv 0) (pa_cons (pe_callB (callLen K) (by rfl) T.b_len (by decide +kernel) (pa_cons (pv 1) pa_nil)) pa_nil))) (fun _ _ => rfl)))), ?_⟩
  refine enterB h fun M b c ds pre _ => ?_
  obtain ⟨x, n, rfl, hl, n0, n1⟩ := pre
  refine do_ret ?_
  refine ev_op ?_
  refine ev_var rfl ?_
  refine ev_callB rfl rfl ?_
  refine ea_cons (ev_cb (ea_cons (ev_var rfl (ea_nil (cd_lenK hl n1 ?_)))))
  refine ea_nil ⟨⟨n, rfl, by omega, by omega⟩, fun d hd => ?_⟩
  obtain ⟨m, r, e, rfl, r0, r1⟩ := hd
  cases e
  obtain ⟨d, hd⟩ := atD_some hl r0 r1
  refine od_ix (fun z e => ?_) hd ⟨x, n, r, rfl, hl, r0, r1, hd⟩
  subst e
  cases hl
  exact n1

/-! ### equal and of the same kinds -/
mutual
def likeD : D → D → Bool
  | .lst xs, .lst ys => likeL xs ys
  | .tup xs, .tup ys => likeL xs ys
  | .non, .non => true
  | .bl a, .bl b => a == b
  | .int a, .int b => a == b
  | .str a, .str b => decide (a = b)
  | _, _ => false
def likeL : List D → List D → Bool
  | [], [] => true
  | x :: xs, y :: ys => likeD x y && likeL xs ys
  | _, _ => false
end
mutual
def dep : D → Nat
  | .lst xs => depL xs + 1
  | .tup xs => depL xs + 1
  | _ => 0
def depL : List D → Nat
  | [] => 0
  | x :: xs => max (dep x) (depL xs)
end
mutual
def plD : D → Bool
  | .lst xs => decide (xs.length ≤ 10000) && plL xs
  | .tup xs => decide (xs.length ≤ 10000) && plL xs
  | .non => true | .bl _ => true | .int _ => true | .str _ => true
  | _ => false
def plL : List D → Bool
  | [] => true
  | x :: xs => plD x && plL xs
end
mutual
theorem likeD_self : ∀ d : D, plD d = true → likeD d d = true
  | .lst xs, h => by
    simp only [plD, Bool.and_eq_true] at h
    simp only [likeD]
    exact likeL_self xs h.2
  | .tup xs, h => by
    simp only [plD, Bool.and_eq_true] at h
    simp only [likeD]
    exact likeL_self xs h.2
  | .non, _ => by simp only [likeD]
  | .bl _, _ => by simp only [likeD, beq_self_eq_true]
  | .int _, _ => by simp only [likeD, beq_self_eq_true]
  | .str _, _ => by simp only [likeD, decide_true]
  | .dic _, h => by simp only [plD, reduceCtorEq] at h
  | .ins _ _, h => by simp only [plD, reduceCtorEq] at h
  | .ty _, h => by simp only [plD, reduceCtorEq] at h
  | .adr _, h => by simp only [plD, reduceCtorEq] at h
  | .exc _ _, h => by simp only [plD, reduceCtorEq] at h
  | .fn _ _ _ _, h => by simp only [plD, reduceCtorEq] at h
theorem likeL_self : ∀ ds : List D, plL ds = true → likeL ds ds = true
  | [], _ => by simp only [likeL]
  | d :: ds, h => by
    simp only [plL, Bool.and_eq_true] at h
    simp only [likeL, likeD_self d h.1, likeL_self ds h.2, Bool.and_self]
end
theorem likeL_len : ∀ {xs ys : List D}, likeL xs ys = true → xs.length = ys.length
  | [], [], _ => rfl
  | _ :: _, [], h => by simp only [likeL, reduceCtorEq] at h
  | [], _ :: _, h => by simp only [likeL, reduceCtorEq] at h
  | x :: xs, y :: ys, h => by
    simp only [likeL, Bool.and_eq_true] at h
    simp only [List.length_cons, likeL_len h.2]
theorem plL_get : ∀ {xs : List D} {i : Nat} {x : D}, plL xs = true → xs[i]? = some x → plD x = true
  | [], _, _, _, h => by simp at h
  | y :: ys, 0, x, h, e => by
    simp only [plL, Bool.and_eq_true] at h
    simp at e
    subst e
    exact h.1
  | y :: ys, i + 1, x, h, e => by
    simp only [plL, Bool.and_eq_true] at h
    exact plL_get (i := i) h.2 (by simpa using e)
theorem depL_get : ∀ {xs : List D} {i : Nat} {x : D}, xs[i]? = some x → dep x ≤ depL xs
  | [], _, _, h => by simp at h
  | y :: ys, 0, x, e => by
    simp at e
    subst e
    simp only [depL]
    omega
  | y :: ys, i + 1, x, e => by
    have := depL_get (xs := ys) (i := i) (x := x) (by simpa using e)
    simp only [depL]
    omega
theorem likeL_zip : ∀ {xs ys : List D}, xs.length = ys.length → likeL xs ys = ((xs.zip ys).map fun p => likeD p.1 p.2).all id
  | [], [], _ => by simp [likeL]
  | _ :: _, [], h => by simp at h
  | [], _ :: _, h => by simp at h
  | x :: xs, y :: ys, h => by
    simp only [likeL, List.zip_cons_cons, List.map_cons, List.all_cons, id]
    rw [likeL_zip (by simpa using h)]
def preLike (n : Nat) : List D → Prop := fun ds => ∃ x y, ds = [x, y] ∧ plD x = true ∧ plD y = true ∧ dep y ≤ n
def postLike : List D → D → Prop := fun ds d => ∃ x y, ds = [x, y] ∧ d = .bl (likeD x y)
theorem ty_of {d : D} (h : plD d = true) : ∃ a, tyName d = some a := by
  cases d <;> first | exact ⟨_, rfl⟩ | (simp only [plD, reduceCtorEq] at h)
/-- isinstance(x, (list, tuple)), the pair made on the way -/
theorem ev_isiT {F : Fm} {δ : List SD} {te : TE} {ta : TA} {P : D → Prop} (h : Ev F te δ fun x => EvA F ta δ fun cs => cs = [.ty "list", .ty "tuple"] ∧ ∃ a, tyName x = some a ∧ P (.bl (isTy a "list" || isTy a "tuple"))) :
    Ev F (tCB (rIsiT F.K) (tCons te (tCons (tTup ta) tNil))) δ P := fun M σ H Q c q => by
  refine h M σ H _ c fun v x H1 p1 c1 e1 r1 => ?_
  refine p1 M σ H1 _ c1 fun vs cs H2 p2 c2 e2 r2 => ?_
  obtain ⟨rfl, a, ha, p⟩ := p2
  cases r2 with
  | cons q1 r3 =>
  cases r3 with
  | cons q2 r4 =>
  cases r4
  cases q1
  cases q2
  refine ⟨sz_of (by decide), fun T hT => ?_⟩
  have s := same_new (o := HO.tup [V.ty "list", V.ty "tuple"]) hT
  have tx : TyX F.K (upd H2 T (.tup [V.ty "list", V.ty "tuple"])) v (.type a) := tyX_of ((r1.mono (hd_step c1 e2)).mono ((same_hd M H2).trans s)) ha
  refine ⟨v, T, _, .type a, [.type "list", .type "tuple"], isTy a "list" || isTy a "tuple", rfl, upd_same, .cons (.ty _) (.cons (.ty _) .nil), tx, ?_, q _ _ _ p (c2.same s) ((e1.trans e2).trans (StepB.of s)) (.bl _)⟩
  have hm := tyName_mem ha
  refine kitAny_cons (kit_ty (kit_isTy hm (by decide))) (fun h1 => ?_) (fun h1 => by rw [h1]; rfl)
  rw [h1, Bool.false_or]
  refine kitAny_cons (kit_ty (kit_isTy hm (by decide))) (fun h2 => ?_) (fun h2 => h2)
  rw [h2]
  exact kitAny_nil

def preL : Nat → List D → Prop
  | 0 => fun _ => False
  | n + 1 => preLike n
theorem isTy_of {d : D} {a : String} (h : tyName d = some a) (n : String) : isTy a n = isD d n := by unfold isD; rw [h]
theorem pairs_get {xs ys : List D} {i : Nat} {d : D} (h : (pairs xs ys)[i]? = some d) : ∃ x y, xs[i]? = some x ∧ ys[i]? = some y ∧ d = .tup [x, y] := by
  unfold pairs at h
  rw [List.getElem?_map] at h
  cases e : (xs.zip ys)[i]? with
  | none => rw [e] at h; cases h
  | some p =>
    rw [e] at h
    obtain ⟨h1, h2⟩ := List.getElem?_zip_eq_some.mp e
    exact ⟨p.1, p.2, h1, h2, (Option.some.inj h).symm⟩
theorem ok_like_ {P : Program} {w : World} {K : PySem.W.Frag} {mg : Str → Option Value} {base : Heap} (T : Txt K mg) (n : Nat) (G : FnOk P w K mg base CX0 n T.f_like T.fd_like ["_law_found", "_law_due"] (spD K (preL n) postLike)) :
    FnOk P w K mg base CX0 (n + 1) T.f_like T.fd_like ["_law_found", "_law_due"] (spD K (preLike n) postLike) := by
  refine T.F_like.ok sc_like (spD_len fun ds ⟨x, y, e, _⟩ => by rw [e]; rfl) (fun cdv A outer s H vs Q E hr h => ?_)
  refine ⟨_, (pss_cons (ps_if (pt_val (pe_callB (callIsiT K) (by rfl) T.b_isinstance (by decide +kernel) (pa_cons (pv 1) (pa_cons (pe_tup (pa_cons (pe_bltn (v := .ty "list") (by rfl) T.b_list (by decide +kernel) rfl) (pa_cons (pe_bltn (v := .ty "tuple") (by rfl) T.b_tuple (by decide +kernel) rfl) pa_nil))) pa_nil)))) (pss_cons (ps_if (PW.pt (pw_or (pt_cmpR op_ne (pe_callB (callIsi K) (by rfl) T.b_isinstance (by decide +kernel) (pa_cons (pv 0) (pa_cons (pe_bltn (v := .ty "list") (by rfl) T.b_list (by decide +kernel) rfl) pa_nil))) (pe_callB (callIsi K) (by rfl) T.b_isinstance (by decide +kernel) (pa_cons (pv 1) (pa_cons (pe_bltn (v := .ty "list") (by rfl) T.b_list (by decide +kernel) rfl) pa_nil))) (nomark _)) (pw_or1 (pt_cmpR op_ne (pe_callB (callIsi K) (by rfl) T.b_isinstance (by decide +kernel) (pa_cons (pv 0) (pa_cons (pe_bltn (v := .ty "tuple") (by rfl) T.b_tuple (by decide +kernel) rfl) pa_nil))) (pe_callB (callIsi K) (by rfl) T.b_isinstance (by decide +kernel) (pa_cons (pv 1) (pa_cons (pe_bltn (v := .ty "tuple") (by rfl) T.b_tuple (by decide +kernel) rfl) pa_nil))) (nomark _))))) (pss_one (ps_ret pe_bl)) pss_nil)
      (pss_one (ps_ret (pe_and (pe_cmpR op_eq (pe_callB (callLen K) (by rfl) T.b_len (by decide +kernel) (pa_cons (pv 0) pa_nil)) (pe_callB (callLen K) (by rfl) T.b_len (by decide +kernel) (pa_cons (pv 1) pa_nil)) (nomark _)) (pe_one (pe_callB (callAll K) (by rfl) T.b_all (by decide +kernel) (pa_cons (pe_lc (own := [("_law_one", 2), ("_law_other", 3)]) rfl sc_like.nd (pi_zipA (by rfl) T.b_zip (pa_cons (pv 0) (pa_cons (pv 1) pa_nil))) (blkOk_by (N := N_like) (sc := defScope s_like) (by decide +kernel)) (fun _ _ _ _ _ => (pgTup K (n := 2) rfl (pgs_cons (pg_name (i := 2) sc_like.nd rfl (Or.inl rfl)) (pgs_cons (pg_name (i := 3) sc_like.nd rfl (Or.inl rfl)) pgs_nil)))) (fun _ _ _ _ _ => pts_nil) (fun _ _ _ _ _ => (pe_call G hr rfl T.g_like T.k_like T.bd_like .nil pass0 (pa_cons (pv 2) (pa_cons (pv 3) pa_nil))))) pa_nil))))))) pss_nil)
    (pss_cons (ps_if (PW.pt (pw_or (pt_cmpR op_isN (pv 1) pe_non (nomark _)) (pw_or1 (pt_cmpR op_isN (pv 0) pe_non (nomark _))))) (pss_one (ps_ret (pe_and (pe_cmpR op_isN (pv 1) pe_non (nomark _)) (pe_one (pe_cmpR op_isN (pv 0) pe_non (nomark _)))))) pss_nil)
    (pss_cons (ps_if (PW.pt (pw_or (pt_cmpR op_ne (pe_callB (callIsi K) (by rfl) T.b_isinstance (by decide +kernel) (pa_cons (pv 0) (pa_cons (pe_bltn (v := .ty "bool") (by rfl) T.b_bool (by decide +kernel) rfl) pa_nil))) (pe_callB (callIsi K) (by rfl) T.b_isinstance (by decide +kernel) (pa_cons (pv 1) (pa_cons (pe_bltn (v := .ty "bool") (by rfl) T.b_bool (by decide +kernel) rfl) pa_nil))) (nomark _)) (pw_or1 (pt_cmpR op_ne (pe_callB (callIsi K) (by rfl) T.b_isinstance (by decide +kernel) (pa_cons (pv 0) (pa_cons (pe_bltn (v := .ty "int") (by rfl) T.b_int (by decide +kernel) rfl) pa_nil))) (pe_callB (callIsi K) (by rfl) T.b_isinstance (by decide +kernel) (pa_cons (pv 1) (pa_cons (pe_bltn (v := .ty "int") (by rfl) T.b_int (by decide +kernel) rfl) pa_nil))) (nomark _))))) (pss_one (ps_ret pe_bl)) pss_nil)
    (pss_one (ps_ret (pe_and (pe_cmpR op_eq (pe_callB (callIsi K) (by rfl) T.b_isinstance (by decide +kernel) (pa_cons (pv 0) (pa_cons (pe_bltn (v := .ty "str") (by rfl) T.b_str (by decide +kernel) rfl) pa_nil))) (pe_callB (callIsi K) (by rfl) T.b_isinstance (by decide +kernel) (pa_cons (pv 1) (pa_cons (pe_bltn (v := .ty "str") (by rfl) T.b_str (by decide +kernel) rfl) pa_nil))) (nomark _)) (pe_one (pe_cmpR op_eq (pv 0) (pv 1) (nomark _))))))))), ?_⟩
  refine enterD h fun M ds pre _ => ?_
  obtain ⟨x, y, rfl, px, py, hd⟩ := pre
  obtain ⟨a, ha⟩ := ty_of px
  obtain ⟨b, hb⟩ := ty_of py
  have isx : ∀ {n : String} {P : D → Prop}, n ∈ tyAsk → P (.bl (isD x n)) → CallD K (rIsi K) [x, .ty n] P := fun hn p => cd_isi ha hn p
  have isy : ∀ {n : String} {P : D → Prop}, n ∈ tyAsk → P (.bl (isD y n)) → CallD K (rIsi K) [y, .ty n] P := fun hn p => cd_isi hb hn p
  refine do_seq (do_if (et_B (ev_isiT (ev_var rfl ?_))))
  refine ea_cons (ev_ty (ea_cons (ev_ty (ea_nil ⟨rfl, b, hb, _, rfl, fun hl => ?_, fun hl => ?_⟩))))
  · -- a list or a tuple is due
    have hdy : isD y "list" = true ∨ isD y "tuple" = true := by
      rw [isTy_of hb, isTy_of hb, Bool.or_eq_true] at hl
      exact hl
    refine do_seq (do_if (et_or (et_test ?_)))
    repeat (first | walk_at "ev" | refine isx (by decide) ?_ | refine isy (by decide) ?_)
    refine ⟨_, rfl, fun h1 => et_test ?_, fun h1 => ⟨fun _ => ?_, fun h => nomatch h⟩⟩
    · repeat (first | walk_at "ev" | refine isx (by decide) ?_ | refine isy (by decide) ?_)
      refine ⟨_, rfl, fun h2 => ?_, fun h2 => ?_⟩
      · refine do_ret (ev_bl ⟨x, y, rfl, ?_⟩)
        cases x <;> cases y <;> first | rfl | (simp [isD, tyName, isTy] at h1 h2 hdy)
      · refine do_next ?_
        obtain ⟨xs, ys, hxy⟩ : ∃ xs ys, (x = .lst xs ∧ y = .lst ys) ∨ (x = .tup xs ∧ y = .tup ys) := by
          cases x <;> cases y <;> first | exact ⟨_, _, .inl ⟨rfl, rfl⟩⟩ | exact ⟨_, _, .inr ⟨rfl, rfl⟩⟩ | (simp [isD, tyName, isTy] at h1 h2 hdy)
        have hlx : lenD x = some xs.length := by rcases hxy with ⟨rfl, _⟩ | ⟨rfl, _⟩ <;> rfl
        have hly : lenD y = some ys.length := by rcases hxy with ⟨_, rfl⟩ | ⟨_, rfl⟩ <;> rfl
        have pxs : xs.length ≤ 10000 ∧ plL xs = true := by
          rcases hxy with ⟨rfl, _⟩ | ⟨rfl, _⟩ <;> (simp only [plD, Bool.and_eq_true, decide_eq_true_eq] at px; exact px)
        have pys : ys.length ≤ 10000 ∧ plL ys = true := by
          rcases hxy with ⟨_, rfl⟩ | ⟨_, rfl⟩ <;> (simp only [plD, Bool.and_eq_true, decide_eq_true_eq] at py; exact py)
        have hdl : depL ys + 1 ≤ n := by
          rcases hxy with ⟨_, rfl⟩ | ⟨_, rfl⟩ <;> (simp only [dep] at hd; exact hd)
        have hlk : likeD x y = likeL xs ys := by rcases hxy with ⟨rfl, rfl⟩ | ⟨rfl, rfl⟩ <;> simp only [likeD]
        obtain ⟨k, rfl⟩ : ∃ k, n = k + 1 := ⟨n - 1, by omega⟩
        refine do_ret ?_
        repeat (first | walk_at "ev" | refine cd_lenK hlx (by omega) ?_ | refine cd_lenK hly (by omega) ?_)
        refine ⟨_, rfl, fun h3 => ?_, fun h3 => ⟨x, y, rfl, ?_⟩⟩
        · have hxl : xs.length = ys.length := by
            have := of_decide_eq_true h3
            omega
          refine ev_cb (ea_cons (EvN.ev ?_))
          refine en_lc (js := [2, 3]) (PX := fun l => l = pairs xs ys) (it_zipA ?_) (fun l e => ?_) (by decide) (fun l i acc => acc = (((xs.zip ys).take i).map fun p => D.bl (likeD p.1 p.2))) (fun l e => rfl) ?_ ?_
          · refine ea_cons (ev_var rfl (ea_cons (ev_var rfl (ea_nil ⟨xs, ys, ?_, rfl⟩))))
            rcases hxy with ⟨rfl, rfl⟩ | ⟨rfl, rfl⟩
            · exact .inl rfl
            · exact .inr rfl
          · subst e
            unfold pairs
            rw [List.length_map, List.length_zip]
            omega
          · rintro l i d acc rfl hi rfl
            obtain ⟨u, v, hu, hv, rfl⟩ := pairs_get hi
            refine tg_tup rfl ?_
            refine tgs_cons (tg_name (tgs_cons (tg_name (tgs_nil ?_))))
            refine et_yes ⟨fun _ => ?_, fun h => nomatch h⟩
            refine ev_call ?_
            refine ea_cons (ev_var rfl (ea_cons (ev_var rfl (ea_nil ⟨⟨u, v, rfl, plL_get pxs.2 hu, plL_get pys.2 hv, ?_⟩, fun d hd => ?_⟩))))
            · have := depL_get hv
              omega
            · obtain ⟨u', v', e, rfl⟩ := hd
              cases e
              have hz : (xs.zip ys)[i]? = some (u, v) := List.getElem?_zip_eq_some.mpr ⟨hu, hv⟩
              rw [List.take_succ, hz]
              simp
          · rintro l ds rfl rfl
            have hfull : ((xs.zip ys).take (pairs xs ys).length) = xs.zip ys := by
              unfold pairs
              rw [List.length_map, List.take_length]
            rw [hfull]
            have : ((xs.zip ys).map fun p => D.bl (likeD p.1 p.2)) = blD ((xs.zip ys).map fun p => likeD p.1 p.2) := by unfold blD; rw [List.map_map]; rfl
            rw [this]
            refine ea_nil (cd_all ⟨x, y, rfl, ?_⟩)
            rw [hlk, likeL_zip hxl]
        · have : likeL xs ys = false := by
            cases e : likeL xs ys with
            | false => rfl
            | true =>
              have := likeL_len e
              rw [this] at h3
              simp at h3
          rw [hlk, this]
    · refine do_ret (ev_bl ⟨x, y, rfl, ?_⟩)
      cases x <;> cases y <;> first | rfl | (simp [isD, tyName, isTy] at h1 hdy)
  · -- a scalar is due
    refine do_next ?_
    have hny : isD y "list" = false ∧ isD y "tuple" = false := by
      rw [isTy_of hb, isTy_of hb, Bool.or_eq_false_iff] at hl
      exact hl
    refine do_seq (do_if (et_or (et_test ?_)))
    repeat walk_at "ev"
    refine ⟨_, rfl, fun h1 => et_test ?_, fun h1 => ⟨fun _ => ?_, fun h => nomatch h⟩⟩
    · repeat walk_at "ev"
      refine ⟨_, rfl, fun h2 => ?_, fun h2 => ?_⟩
      · refine do_ret ?_
        repeat walk_at "ev"
        refine ⟨_, rfl, fun h3 => ?_, fun _ => ⟨x, y, rfl, ?_⟩⟩
        · rw [h1] at h3
          cases h3
        · cases x <;> cases y <;> first | rfl | (simp [isNon, isD, tyName, isTy] at h1 h2 hny)
      · refine do_next ?_
        refine do_seq (do_if (et_or (et_test ?_)))
        repeat (first | walk_at "ev" | refine isx (by decide) ?_ | refine isy (by decide) ?_)
        refine ⟨_, rfl, fun h3 => et_test ?_, fun h3 => ⟨fun _ => ?_, fun h => nomatch h⟩⟩
        · repeat (first | walk_at "ev" | refine isx (by decide) ?_ | refine isy (by decide) ?_)
          refine ⟨_, rfl, fun h4 => ?_, fun h4 => ?_⟩
          · refine do_ret (ev_bl ⟨x, y, rfl, ?_⟩)
            cases x <;> cases y <;> first | rfl | (simp [isNon, isD, tyName, isTy] at h1 h2 h3 h4 hny)
          · refine do_next (do_ret ?_)
            refine ev_and ?_
            repeat (first | walk_at "ev" | refine isx (by decide) ?_ | refine isy (by decide) ?_)
            refine ⟨_, rfl, fun h5 => ?_, fun h5 => ⟨x, y, rfl, ?_⟩⟩
            · refine ev_op (ev_var rfl (ev_var rfl ?_))
              cases x <;> cases y <;> first
                | (simp [isNon, isD, tyName, isTy] at h1 h2 h3 h4 h5 hny; done)
                | exact od_eq_bl ⟨_, _, rfl, by simp only [likeD, Bool.beq_eq_decide_eq]⟩
                | exact od_eq_int ⟨_, _, rfl, by simp only [likeD, Bool.beq_eq_decide_eq]⟩
                | exact od_eq_str ⟨_, _, rfl, by simp only [likeD]⟩
                | (simp [plD] at px; done)
                | (simp [plD] at py; done)
            · cases x <;> cases y <;> first | rfl | (simp [isNon, isD, tyName, isTy] at h1 h2 h3 h4 h5 hny)
        · refine do_ret (ev_bl ⟨x, y, rfl, ?_⟩)
          cases x <;> cases y <;> first | rfl | (simp [isNon, isD, tyName, isTy] at h1 h2 h3 hny)
    · refine do_ret ?_
      repeat walk_at "ev"
      refine ⟨_, rfl, fun h3 => ?_, fun h3 => ⟨x, y, rfl, ?_⟩⟩
      · repeat walk_at "ev"
        refine ⟨x, y, rfl, ?_⟩
        cases x <;> cases y <;> first | rfl | (simp [isNon] at h1)
      · rw [h1] at h3
        cases h3
theorem ok_like {P : Program} {w : World} {K : PySem.W.Frag} {mg : Str → Option Value} {base : Heap} (T : Txt K mg) : ∀ n, FnOk P w K mg base CX0 (n + 1) T.f_like T.fd_like ["_law_found", "_law_due"] (spD K (preLike n) postLike) := by
  intro n
  induction n with
  | zero => exact ok_like_ T 0 ⟨fun vs H Q E ⟨_, _, _, _, p, _⟩ => p.elim, fun A outer s H args us vs Q E _ _ _ _ ⟨_, _, _, _, p, _⟩ => p.elim⟩
  | succ n ih => exact ok_like_ T (n + 1) ih
/-! ### the bag is made -/
def spOpen (K : PySem.W.Frag) : Sp := fun vs H Q _ => ∃ (a : Addr) (ns : List Int), vs = [.ref a] ∧ SqL K H a (ns.map V.int) ∧ ns.length ≤ 63 ∧ ∀ b c H', H b = none → Same H H' → BagAt H' b c → Q (.ref b) H'
theorem cut63 {ns : List Int} (h : ns.length ≤ 63) : cutV (ns.map V.int) none (some 63) = ns.map V.int := by
  unfold cutV
  have e1 : HT.sIx (ns.map V.int).length 0 none = 0 := rfl
  have e2 : HT.sIx (ns.map V.int).length (ns.map V.int).length (some 63) = ns.length := by
    rw [List.length_map]
    have := HT.sIx_nat ns.length ns.length 63
    rw [show ((63 : Nat) : Int) = 63 from rfl] at this
    rw [this]
    omega
  rw [e1, e2, List.drop_zero, Nat.sub_zero]
  exact List.take_of_length_le (by rw [List.length_map]; exact Nat.le_refl _)
theorem ok_open {P : Program} {w : World} {K : PySem.W.Frag} {mg : Str → Option Value} {base : Heap} (T : Txt K mg) : FnOk P w K mg base CX0 2 T.f_open T.fd_open ["_law_script"] (spOpen K) := by
  refine T.F_open.ok sc_open (fun vs H Q E h => ?_) (fun cdv A outer s H vs Q E hr h => ?_)
  · obtain ⟨a, ns, rfl, _⟩ := h
    rfl
  refine ⟨_, (pss_one (ps_ret (pe_lst (pa_cons (pe_callTy (callList K) (by rfl) T.b_list (by decide +kernel) (pa_cons (pe_slice (slL K) (pv 0) po_none (po_some pe_int)) pa_nil)) (pa_cons pe_int (pa_cons pe_int (pa_cons pe_int (pa_cons pe_int pa_nil)))))))), ?_⟩
  obtain ⟨a, ns, rfl, hs, hn, q⟩ := h
  refine ⟨_, rfl, 63, rfl, _, _, rfl, hs, fun p hp => ?_⟩
  have s1 : Same H (upd H p (.lst (cutV (ns.map V.int) none (some 63)))) := same_new hp
  refine ⟨p, _, rfl, .inl (SqL.of upd_same), fun c hc => ?_⟩
  refine ⟨sz_of (show 5 ≤ 100000 by decide), fun b hb => ?_⟩
  have hcp : c ≠ p := fun e => by
    rw [e, upd_same] at hc
    cases hc
  have hbc : c ≠ b := fun e => by
    rw [← e, upd_same] at hb
    cases hb
  refine q b c _ ?_ (fun x o h => ?_) ⟨ns, 0, 0, 100081, 0, upd_same, hbc, by rw [upd_ne hbc, upd_same, cut63 hn], Nat.zero_le _, hn, Int.le_refl _, by decide, by decide, Int.le_refl _⟩
  · cases z : H b with
    | none => rfl
    | some o =>
      have h1 : b ≠ p := ne_of_none z hp
      have h2 : (upd H p (.lst (cutV (ns.map V.int) none (some 63)))) b = some o := by rw [upd_ne h1]; exact z
      have h3 : b ≠ c := ne_of_none h2 hc
      rw [upd_ne h3, h2] at hb
      cases hb
  · have h2 := s1 x o h
    have h3 : (upd (upd H p (.lst (cutV (ns.map V.int) none (some 63)))) c (.lst (cutV (ns.map V.int) none (some 63)))) x = some o := by rw [upd_ne (ne_of_none h2 hc)]; exact h2
    rw [upd_ne (ne_of_none h3 hb)]
    exact h3
/-! ### the law's own frame: the bag in slot 1, nothing else known -/
/-- slots forgotten ahead of what follows -/
theorem Ctx.forget1 {F : Fm} {M : Addr → Bool} {σ : L2.St} {H : Hp} {δ : List SD} (c : Ctx F M σ H δ) (i : Nat) : Ctx F M σ H (δ.set i .un) := by
  refine ⟨c.al, c.al0, c.m0, c.fr, c.bg, by rw [List.length_set, c.ln], fun j x hx => ?_, fun j k p ds es h1 h2 => ?_, fun j p ds h => ?_⟩
  · rcases set_key hx with ⟨rfl, rfl, hl⟩ | ⟨hj, hx⟩
    · exact ⟨σ[i]'(by rw [c.ln]; exact hl), by simp, trivial⟩
    · exact c.sl j x hx
  · rcases set_key h1 with ⟨_, z, _⟩ | ⟨_, h1⟩
    · cases z
    rcases set_key h2 with ⟨_, z, _⟩ | ⟨_, h2⟩
    · cases z
    exact c.dj j k p ds es h1 h2
  · rcases set_key h with ⟨_, z, _⟩ | ⟨_, h⟩
    · cases z
    exact c.oh j p ds h
theorem Ctx.forget {F : Fm} {M : Addr → Bool} {σ : L2.St} {H : Hp} {δ : List SD} (c : Ctx F M σ H δ) : ∀ js : List Nat, Ctx F M σ H (wipeD δ js)
  | [] => c
  | j :: js => (Ctx.forget c js).forget1 j
theorem do_wk {F : Fm} {t : TS} {δ : List SD} {R : PD} (js : List Nat) (h : Do F t δ { R with nx := fun δ' => R.nx (wipeD δ' js), ct := fun δ' => R.ct (wipeD δ' js), bk := fun δ' => R.bk (wipeD δ' js) }) : Do F t δ R := fun M σ H E c a b k d =>
  h M σ H E c (fun M' σ' H' δ' p c' s => a M' σ' H' _ p (c'.forget js) s) b (fun M' σ' H' δ' p c' s => k M' σ' H' _ p (c'.forget js) s) (fun M' σ' H' δ' p c' s => d M' σ' H' _ p (c'.forget js) s)
/-- x = e, then the rest: what e is first -/
theorem do_letP {F : Fm} {te : TE} {u : TS} {δ : List SD} {R : PD} {i : Nat} (P : D → Prop) (h : Ev F te δ P) (k : ∀ x, P x → Do F u (δ.set i (.dat x)) R) : Do F (tSeq (tAsg te (gName i)) u) δ R :=
  do_seq (do_set (h.imp fun x p => k x p))
theorem do_let {F : Fm} {te : TE} {u : TS} {δ : List SD} {R : PD} {i : Nat} (v : D) (h : Ev F te δ (· = v)) (k : Do F u (δ.set i (.dat v)) R) : Do F (tSeq (tAsg te (gName i)) u) δ R :=
  do_letP _ h fun x e => by rw [e]; exact k
/-- a text's method of one argument, of none -/
theorem ev_m1 {F : Fm} {δ : List SD} {to te : TE} {r : V → List V → Hp → VK → Prop} {P : D → Prop} (h : Ev F to δ fun x => ∃ z, x = .str z ∧ Ev F te δ fun y => CallD F.K (fun vs H Q => ∃ u v, vs = [u, v] ∧ r u [v] H Q) [.str z, y] P) : Ev F (tM1 r to te) δ P := fun M σ H Q c q =>
  h M σ H _ c fun v x H1 p1 c1 e1 r1 => by
    obtain ⟨z, rfl, p⟩ := p1
    cases r1
    refine ⟨⟨z, rfl⟩, p M σ H1 _ c1 fun w y H2 p2 c2 e2 r2 => ?_⟩
    obtain ⟨u, v, e, h⟩ := p2 M H2 [.str z, w] Q c2.al (.cons (.str z) (.cons r2 .nil)) fun u d H3 p e r3 => q u d H3 p (c2.same e) ((e1.trans e2).trans (StepB.of e)) r3
    cases e
    exact h

section
variable {F : Fm} {δ : List SD} {ta : TA} {P : D → Prop} {E : XK} {i : Nat} {b : Addr}
theorem ev_draw (hb : F.B = some b) (hi : δ[i]? = some .bag) (h : EvA F ta δ fun ds => ∃ m, ds = [.int m] ∧ 0 < m ∧ m < 1073741824 ∧ ∀ r, 0 ≤ r → r < m → P (.int r)) : Ev F (tCall (spB F.K preDraw postDraw) [] E (tCons (tVar i) ta)) δ P :=
  ev_callB hb hi (h.imp fun ds ⟨m, e, h0, h1, p⟩ => ⟨⟨m, e, h0, h1⟩, fun d ⟨m', r, e', e2, h2, h3⟩ => by
    subst e
    cases e'
    subst e2
    exact p r h2 h3⟩)
theorem ev_of (hb : F.B = some b) (hi : δ[i]? = some .bag) (h : EvA F ta δ fun ds => ∃ x n, ds = [x] ∧ lenD x = some n ∧ 0 < n ∧ n ≤ 100000 ∧ ∀ k d, 0 ≤ k → k < (n : Int) → atD x k = some d → P d) : Ev F (tCall (spB F.K preOf postOf) [] E (tCons (tVar i) ta)) δ P :=
  ev_callB hb hi (h.imp fun ds ⟨x, n, e, h0, h1, h2, p⟩ => ⟨⟨x, n, e, h0, h1, h2⟩, fun d ⟨x', n', k, e', e2, h3, h4, h5⟩ => by
    subst e
    cases e'
    rw [h0] at e2
    cases e2
    exact p k d h3 h4 h5⟩)
theorem atI_mem {α : Type} {xs : List α} {k : Int} {d : α} (h : atI xs k = some d) : d ∈ xs := by
  obtain ⟨j, _, h2, _⟩ := atI_get h
  exact List.mem_of_getElem? h2
/-- one of a list | of a text -/
theorem ev_ofL (hb : F.B = some b) (hi : δ[i]? = some .bag) (h : EvA F ta δ fun ds => ∃ xs, ds = [.lst xs] ∧ xs ≠ [] ∧ xs.length ≤ 100000 ∧ ∀ d ∈ xs, P d) : Ev F (tCall (spB F.K preOf postOf) [] E (tCons (tVar i) ta)) δ P :=
  ev_of hb hi (h.imp fun ds ⟨xs, e, h0, h1, p⟩ => ⟨_, xs.length, e, rfl, List.length_pos_iff.mpr h0, h1, fun k d _ _ h2 => p d (atI_mem h2)⟩)
theorem ev_like {n : Nat} (h : EvA F ta δ fun ds => ∃ x y, ds = [x, y] ∧ plD x = true ∧ plD y = true ∧ dep y ≤ n ∧ P (.bl (likeD x y))) : Ev F (tCall (spD F.K (preLike n) postLike) [] E ta) δ P :=
  ev_call (h.imp fun ds ⟨x, y, e, h0, h1, h2, p⟩ => ⟨⟨x, y, e, h0, h1, h2⟩, fun d ⟨x', y', e', e2⟩ => by
    subst e
    cases e'
    subst e2
    exact p⟩)
end
/-! texts -/
def strD (zs : List Str) : List D := zs.map .str
theorem repL_str {K : PySem.W.Frag} {H : Hp} : ∀ {vs : List V} {zs : List Str}, RepL K H vs (strD zs) → vs = zs.map V.str
  | _, [], .nil => rfl
  | _, b :: bs, .cons (.str _) r => by rw [List.map_cons, repL_str (zs := bs) r]
theorem cd_join {K : PySem.W.Frag} {P : D → Prop} {a : Str} {ys : List Str} (hz : (ys.map (·.length)).sum + ys.length * a.length ≤ 16777216) (p : P (.str (Txt.join a ys))) :
    CallD K (fun vs H Q => ∃ u v, vs = [u, v] ∧ ∃ a p, ∃ ys : List Str, u = V.str a ∧ [v] = [V.ref p] ∧ (SqL K H p (ys.map V.str) ∨ SqT K H p (ys.map V.str)) ∧ (ys.map (·.length)).sum + ys.length * a.length ≤ 16777216 ∧ Q (.str (Txt.join a ys)) H) [.str a, .lst (strD ys)] P := fun M H vs Q al r q => by
  cases r with
  | cons r1 r2 =>
  cases r2 with
  | cons r2 r3 =>
  cases r3
  cases r1
  cases r2 with
  | lst h1 h2 =>
    have e := repL_str h2
    subst e
    exact ⟨_, _, rfl, a, _, ys, rfl, rfl, .inl (SqL.of (hd_of h1).2), hz, q _ _ H p (Same.refl H) (.str _)⟩
theorem joinL_nil : ∀ ls : List (List Nat), TL.joinL [] ls = ls.flatten
  | [] => rfl
  | [p] => by simp [TL.joinL]
  | p :: q :: r => by
    show p ++ ([] ++ TL.joinL [] (q :: r)) = _
    rw [joinL_nil (q :: r)]
    simp
theorem str_len (z : Str) : z.cps.toList.length = z.length := by simp [Str.length]
theorem add_len (a b : Str) : (a ++ b).length = a.length + b.length := by
  show (a.cps ++ b.cps).size = _
  rw [Array.size_append]
  rfl
/-! ### numbers and names -/
def isWh (x : D) : Bool := match x with
  | .int _ => true | _ => false
def isNum (x : D) (lo hi : Int) : Bool := match x with
  | .int i => decide (lo ≤ i) && decide (i ≤ hi) | _ => false
def preWh : List D → Prop := fun ds => ∃ x, ds = [x] ∧ plD x = true
def postWh : List D → D → Prop := fun ds d => ∃ x, ds = [x] ∧ d = .bl (isWh x)
theorem ok_is_whole {P : Program} {w : World} {K : PySem.W.Frag} {mg : Str → Option Value} {base : Heap} (T : Txt K mg) : FnOk P w K mg base CX0 1 T.f_is_whole T.fd_is_whole ["value"] (spD K preWh postWh) := by
  refine T.F_is_whole.ok sc_is_whole (spD_len fun ds ⟨x, e, _⟩ => by rw [e]; rfl) (fun cdv A outer s H vs Q E hr h => ?_)
  refine ⟨_, (pss_one (ps_ret (pe_and (pe_callB (callIsi K) (by rfl) T.b_isinstance (by decide +kernel) (pa_cons (pv 0) (pa_cons (pe_bltn (v := .ty "int") (by rfl) T.b_int (by decide +kernel) rfl) pa_nil))) (pe_one (pe_not (pe_callB (callIsi K) (by rfl) T.b_isinstance (by decide +kernel) (pa_cons (pv 0) (pa_cons (pe_bltn (v := .ty "bool") (by rfl) T.b_bool (by decide +kernel) rfl) pa_nil)))))))), ?_⟩
  refine enterD h fun M ds pre _ => ?_
  obtain ⟨x, rfl, px⟩ := pre
  obtain ⟨a, ha⟩ := ty_of px
  have isx : ∀ {n : String} {P : D → Prop}, n ∈ tyAsk → P (.bl (isD x n)) → CallD K (rIsi K) [x, .ty n] P := fun hn p => cd_isi ha hn p
  refine do_ret ?_
  repeat (first | walk_at "ev" | refine isx (by decide) ?_)
  refine ⟨_, rfl, fun h1 => ?_, fun h1 => ⟨x, rfl, ?_⟩⟩
  · repeat (first | walk_at "ev" | refine isx (by decide) ?_)
    refine ⟨_, rfl, ⟨x, rfl, ?_⟩⟩
    cases x <;> first | rfl | (simp [isD, tyName, isTy] at h1)
  · cases x <;> first | rfl | (simp [isD, tyName, isTy] at h1)
def preNum : List D → Prop := fun ds => ∃ x lo hi, ds = [x, .int lo, .int hi] ∧ plD x = true
def postNum : List D → D → Prop := fun ds d => ∃ x lo hi, ds = [x, .int lo, .int hi] ∧ d = .bl (isNum x lo hi)
theorem ok_is_number {P : Program} {w : World} {K : PySem.W.Frag} {mg : Str → Option Value} {base : Heap} (T : Txt K mg) : FnOk P w K mg base CX0 2 T.f_is_number T.fd_is_number ["value", "least", "most"] (spD K preNum postNum) := by
  refine T.F_is_number.ok sc_is_number (spD_len fun ds ⟨x, lo, hi, e, _⟩ => by rw [e]; rfl) (fun cdv A outer s H vs Q E hr h => ?_)
  refine ⟨_, (pss_one (ps_ret (pe_and (pe_call (ok_is_whole T) (hr.mono (by decide)) rfl T.g_is_whole T.k_is_whole T.bd_is_whole .nil pass0 (pa_cons (pv 0) pa_nil)) (pe_one (pe_chain op_le op_le (pv 1) (pv 0) (pv 2)))))), ?_⟩
  refine enterD h fun M ds pre _ => ?_
  obtain ⟨x, lo, hi, rfl, px⟩ := pre
  refine do_ret (ev_and (ev_call (ea_cons (ev_var rfl (ea_nil ⟨⟨x, rfl, px⟩, fun d hd => ?_⟩)))))
  obtain ⟨x', e', rfl⟩ := hd
  cases e'
  refine ⟨_, rfl, fun h1 => ?_, fun h1 => ⟨x, lo, hi, rfl, ?_⟩⟩
  · obtain ⟨i, rfl⟩ : ∃ i, x = .int i := by
      cases x <;> first | exact ⟨_, rfl⟩ | cases h1
    repeat walk_at "ev"
    refine ⟨_, rfl, fun h3 => ?_, fun h3 => ⟨_, lo, hi, rfl, ?_⟩⟩
    · repeat walk_at "ev"
      refine ⟨_, lo, hi, rfl, ?_⟩
      simp only [isNum, h3, Bool.true_and]
    · simp only [isNum, h3, Bool.false_and]
  · cases x <;> first | rfl | cases h1

end Pf

set_option maxHeartbeats 16000000
namespace Pf
open PySem L2 PfL RZ
local macro_rules | `(tactic| walk_at "ev") => `(tactic| first
  | ((with_reducible refine' ev_var ?h ?_); (case h => rfl))
  | with_reducible refine ev_int ?_
  | with_reducible refine ev_bl ?_
  | with_reducible refine ev_str ?_
  | with_reducible refine ev_non ?_
  | with_reducible refine ev_ty ?_
  | with_reducible refine ev_op ?_
  | with_reducible refine ev_un ?_
  | with_reducible refine ev_chain ?_
  | with_reducible refine ev_if ?_
  | with_reducible refine ev_and ?_
  | with_reducible refine ev_or ?_
  | with_reducible refine ev_not ?_
  | with_reducible refine ev_lst ?_
  | with_reducible refine ev_tup ?_
  | with_reducible refine ea_nil ?_
  | with_reducible refine ea_cons ?_
  | with_reducible refine ev_cb ?_
  | with_reducible refine et_test ?_
  | with_reducible refine et_B ?_
  | with_reducible refine et_and ?_
  | with_reducible refine et_or ?_
  | with_reducible refine et_not ?_
  | with_reducible refine et_yes ?_
  | with_reducible refine eo_none ?_
  | with_reducible refine eo_some ?_
  | with_reducible refine ev_slS ?_
  | with_reducible refine od_int ?_
  | with_reducible refine od_bl ?_
  | with_reducible refine od_eq_int ?_
  | with_reducible refine od_ne_int ?_
  | with_reducible refine od_eq_bl ?_
  | with_reducible refine od_ne_bl ?_
  | with_reducible refine od_eq_str ?_
  | with_reducible refine od_ne_str ?_
  | with_reducible refine od_leS ?_
  | with_reducible refine ud_isN ?_
  | with_reducible refine ud_notN ?_
  | with_reducible refine do_seq ?_
  | with_reducible refine do_set ?_
  | with_reducible refine do_ret ?_
  | with_reducible refine do_retN ?_
  | with_reducible refine do_if ?_
  | with_reducible refine do_next ?_
  | with_reducible refine tg_name ?_
  | with_reducible refine tgs_nil ?_
  | with_reducible refine tgs_cons ?_)
/-! ### _law_field, _law_try, _law_tries -/
abbrev ctT {K : PySem.W.Frag} {mg : Str → Option Value} (T : Txt K mg) : List Value := [.ref T.c_PartError, .ref T.c_Missing, .ref T.c_NothingLeft]
theorem field_at {K : PySem.W.Frag} {ct : List Value} {C : Addr} {gs : List (Str × D)} {n f : Str} {x : D} (ei : ErrIs K ct C gs n x) (h : fieldOf n = some f) : List.lookup f gs = some x := by
  have := ei.fd
  rw [h] at this
  exact this
theorem field_no {K : PySem.W.Frag} {ct : List Value} {C : Addr} {gs : List (Str × D)} {n : Str} {x : D} (ei : ErrIs K ct C gs n x) (h : fieldOf n = none) : x = .non := by
  have := ei.fd
  rw [h] at this
  exact this
theorem fn_field {P : Program} {w : World} {K : PySem.W.Frag} {mg : Str → Option Value} {base : Heap} (T : Txt K mg) {a : Addr} {oe : Obj} {C dx : Addr} (hz : Zc (.ref C) (some dx) oe) (hf : ∃ vs, oe.data = .fields vs) (cl : ExcC K C) :
    PfT.FnE P w K mg base CX0 1 T.f_field T.fd_field ["_law_e"] (a, oe) (spField K (ctT T) C a dx) := by
  refine PfT.fnE_of T.F_field sc_field (fun vs H Q E h => ?_) (fun cdv A outer s H vs Q E hr h => ?_)
  · obtain ⟨_, _, _, _, _, rfl, _⟩ := h
    rfl
  obtain ⟨M, fvs, gs, n, x, rfl, al, hdx, rf, ei, q⟩ := h
  have na : ∀ f ∈ errNames, PySem.W.findIn K (.ref C) f = some none := ei.na
  refine ⟨_, (pss_cons (ps_if (pt_cmpR (opIn K) (PfT.pe_xfp (.head _) hz hf cl (na _ (by decide)) (pv 0)) (pe_lst (pa_cons pe_str (pa_cons pe_str (pa_cons pe_str (pa_cons pe_str pa_nil))))) (by with_unfolding_all rfl)) (pss_one (ps_ret (PfT.pe_xfp (.head _) hz hf cl (na _ (by decide)) (pv 0)))) pss_nil)
    (pss_cons (ps_if (pt_cmpR (opIn K) (PfT.pe_xfp (.head _) hz hf cl (na _ (by decide)) (pv 0)) (pe_lst (pa_cons pe_str (pa_cons pe_str pa_nil))) (by with_unfolding_all rfl)) (pss_one (ps_ret (PfT.pe_xfp (.head _) hz hf cl (na _ (by decide)) (pv 0)))) pss_nil)
    (pss_cons (ps_if (pt_cmpR (opIn K) (PfT.pe_xfp (.head _) hz hf cl (na _ (by decide)) (pv 0)) (pe_lst (pa_cons pe_str (pa_cons pe_str pa_nil))) (by with_unfolding_all rfl)) (pss_one (ps_ret (PfT.pe_xfp (.head _) hz hf cl (na _ (by decide)) (pv 0)))) pss_nil)
    (pss_cons (ps_if (pt_cmpR (opIn K) (PfT.pe_xfp (.head _) hz hf cl (na _ (by decide)) (pv 0)) (pe_lst (pa_cons pe_str (pa_cons pe_str (pa_cons pe_str pa_nil)))) (by with_unfolding_all rfl)) (pss_one (ps_ret pe_non)) pss_nil)
    (pss_cons (ps_if (pt_cmpR (opIn K) (PfT.pe_xfp (.head _) hz hf cl (na _ (by decide)) (pv 0)) (pe_lst (pa_cons pe_str (pa_cons pe_str pa_nil))) (by with_unfolding_all rfl)) (pss_one (ps_ret (pe_ifExp (pt_cmpR op_eq (PfT.pe_xfp (.head _) hz hf cl (na _ (by decide)) (pv 0)) pe_str (nomark _)) (PfT.pe_xfp (.head _) hz hf cl (na _ (by decide)) (pv 0)) (PfT.pe_xfp (.head _) hz hf cl (na _ (by decide)) (pv 0))))) pss_nil)
    (pss_cons (ps_if (pt_cmpR (opIn K) (PfT.pe_xfp (.head _) hz hf cl (na _ (by decide)) (pv 0)) (pe_lst (pa_cons pe_str (pa_cons pe_str pa_nil))) (by with_unfolding_all rfl)) (pss_one (ps_ret (pe_ifExp (pt_cmpR op_eq (PfT.pe_xfp (.head _) hz hf cl (na _ (by decide)) (pv 0)) pe_str (nomark _)) (PfT.pe_xfp (.head _) hz hf cl (na _ (by decide)) (pv 0)) (PfT.pe_xfp (.head _) hz hf cl (na _ (by decide)) (pv 0))))) pss_nil)
    (pss_one (ps_ret (PfT.pe_xfp (.head _) hz hf cl (na _ (by decide)) (pv 0)))))))))), ?_⟩
  obtain ⟨hk, rl⟩ := repF_keys rf
  have hs : spD K (fun ds => ds = [errD a dx fvs gs]) (fun _ d => d = x) [.ref a] H Q E := ⟨M, [errD a dx fvs gs], al, .cons (.fn (fun p hp => by
    rw [List.mem_singleton.mp hp]
    exact ⟨hdx, fun o u z => by cases z⟩) rl) .nil, rfl, fun v d H' e s r => q v H' s (e ▸ r)⟩
  refine enterD hs fun M ds pre _ => ?_
  subst pre
  have rd : ∀ {F : Fm} {f : Str} {Pd : D → Prop}, fieldOf n = some f → Pd x → Ev F (PfT.tXfp a dx f (tVar 0)) [.dat (errD a dx fvs gs)] Pd := fun h p => ev_xfp rfl hk (field_at ei h) p
  have cdE : ∀ {F : Fm} {Pd : D → Prop}, Pd (.str n) → Ev F (PfT.tXfp a dx "code" (tVar 0)) [.dat (errD a dx fvs gs)] Pd := fun p => ev_xfp rfl hk ei.cd p
  have isIn : ∀ {K : PySem.W.Frag} {zs : List Str} {P : D → Prop}, P (.bl (decide (n ∈ zs))) → OpD K (rIn K false) (.str n) (.lst (txsD zs)) P := fun p => od_inStrs (neg := false) (t := false) p
  refine do_seq (do_if (et_test (ev_op (cdE (EvN.ev (en_lst (ea_cons (ev_str (ea_cons (ev_str (ea_cons (ev_str (ea_cons (ev_str (ea_nil ⟨by simp, ?_⟩)))))))))))))))
  refine isIn (zs := ["InvalidRow", "InvalidState", "InvalidGroup", "InvalidCommand"]) ⟨_, rfl, fun h1 => ?_, fun h1 => do_next ?_⟩
  · exact do_ret (rd (by unfold fieldOf; rw [if_pos (of_decide_eq_true h1)]) rfl)
  have g1 := of_decide_eq_false h1
  refine do_seq (do_if (et_test (ev_op (cdE (EvN.ev (en_lst (ea_cons (ev_str (ea_cons (ev_str (ea_nil ⟨by simp, ?_⟩)))))))))))
  refine isIn (zs := ["DuplicateNumber", "UnknownNumber"]) ⟨_, rfl, fun h2 => ?_, fun h2 => do_next ?_⟩
  · exact do_ret (rd (by unfold fieldOf; rw [if_neg g1, if_pos (of_decide_eq_true h2)]) rfl)
  have g2 := of_decide_eq_false h2
  refine do_seq (do_if (et_test (ev_op (cdE (EvN.ev (en_lst (ea_cons (ev_str (ea_cons (ev_str (ea_nil ⟨by simp, ?_⟩)))))))))))
  refine isIn (zs := ["DuplicateName", "UnknownName"]) ⟨_, rfl, fun h3 => ?_, fun h3 => do_next ?_⟩
  · exact do_ret (rd (by unfold fieldOf; rw [if_neg g1, if_neg g2, if_pos (of_decide_eq_true h3)]) rfl)
  have g3 := of_decide_eq_false h3
  refine do_seq (do_if (et_test (ev_op (cdE (EvN.ev (en_lst (ea_cons (ev_str (ea_cons (ev_str (ea_cons (ev_str (ea_nil ⟨by simp, ?_⟩)))))))))))))
  refine isIn (zs := ["PartsDiffer", "Ended", "NothingLeft"]) ⟨_, rfl, fun h4 => ?_, fun h4 => do_next ?_⟩
  · exact do_ret (ev_non (field_no ei (by unfold fieldOf; rw [if_neg g1, if_neg g2, if_neg g3, if_pos (of_decide_eq_true h4)])).symm)
  have g4 := of_decide_eq_false h4
  refine do_seq (do_if (et_test (ev_op (cdE (EvN.ev (en_lst (ea_cons (ev_str (ea_cons (ev_str (ea_nil ⟨by simp, ?_⟩)))))))))))
  refine isIn (zs := ["InvalidText", "TooMany"]) ⟨_, rfl, fun h5 => ?_, fun h5 => do_next ?_⟩
  · have e5 : fieldOf n = some (if n = "InvalidText" then ("line" : Str) else ("most" : Str)) := by unfold fieldOf; rw [if_neg g1, if_neg g2, if_neg g3, if_neg g4, if_pos (of_decide_eq_true h5)]
    refine do_ret (ev_if (et_test (ev_op (cdE (ev_str (od_eq_str ⟨_, rfl, fun h => ?_, fun h => ?_⟩))))))
    · exact rd (by rw [e5, if_pos (of_decide_eq_true h)]) rfl
    · exact rd (by rw [e5, if_neg (of_decide_eq_false h)]) rfl
  have g5 := of_decide_eq_false h5
  refine do_seq (do_if (et_test (ev_op (cdE (EvN.ev (en_lst (ea_cons (ev_str (ea_cons (ev_str (ea_nil ⟨by simp, ?_⟩)))))))))))
  refine isIn (zs := ["WrongReader", "Full"]) ⟨_, rfl, fun h6 => ?_, fun h6 => do_next ?_⟩
  · have e6 : fieldOf n = some (if n = "WrongReader" then ("first" : Str) else ("limit" : Str)) := by unfold fieldOf; rw [if_neg g1, if_neg g2, if_neg g3, if_neg g4, if_neg g5, if_pos (of_decide_eq_true h6)]
    refine do_ret (ev_if (et_test (ev_op (cdE (ev_str (od_eq_str ⟨_, rfl, fun h => ?_, fun h => ?_⟩))))))
    · exact rd (by rw [e6, if_pos (of_decide_eq_true h)]) rfl
    · exact rd (by rw [e6, if_neg (of_decide_eq_false h)]) rfl
  have g6 := of_decide_eq_false h6
  exact do_ret (rd (by unfold fieldOf; rw [if_neg g1, if_neg g2, if_neg g3, if_neg g4, if_neg g5, if_neg g6]) rfl)
theorem ok_try {P : Program} {w : World} {K : PySem.W.Frag} {mg : Str → Option Value} {base : Heap} (T : Txt K mg) (k : Nat) : FnOk P w K mg base CX0 (k + 3) T.f_try T.fd_try ["_law_ask"] (spTry P w K mg base k (ctT T)) := by
  refine T.F_try.ok sc_try (fun vs H Q E h => spTry_len h) (fun cdv A outer s H vs Q E hr h => ?_)
  have rH := L2H.roomH_of (hr.mono (show 1 ≤ k + 2 by omega))
  refine ⟨_, pss_one (PfT.ps_try_asT (i := 1) (cs := ctT T) (Wout := fun _ _ _ _ => False) (tb := tbT P w K mg base k) (ts := tsT K (ctT T)) rfl rfl sc_try.nd rfl rfl (PfT.tells3 ⟨rfl, rfl, .inl T.g_PartError⟩ ⟨rfl, rfl, .inl T.g_Missing⟩ ⟨rfl, rfl, .inl T.g_NothingLeft⟩) LamX.takes0 (fun W pn xe _ tk _ => ?_) (fun a oe cls d pn hz hf => ?_)), try_runs rfl h⟩
  · refine pss_ex fun D σ H g => ?_
    obtain ⟨Ech, hW, g⟩ := g
    exact ⟨_, pss_one (ps_ret (pe_tup (pa_cons pe_str (pa_cons (PfL.pe_ask tk hW (hr.mono (Nat.le_add_right _ _)) rfl (.inl rfl)) pa_nil)))), g⟩
  · refine pss_ex fun D σ H g => ?_
    obtain ⟨C, dx, rfl, rfl, cl, nc, g⟩ := g
    exact ⟨_, pss_one (ps_ret (pe_tup (pa_cons (PfT.pe_xfp (.head _) hz hf cl nc (pv 1)) (pa_cons (PfT.pe_callE (fn_field T hz hf cl) ⟨rH.dp, rH.un⟩ (.head _) rfl T.g_field T.k_field T.bd_field pass0 (pa_cons (pv 1) pa_nil)) pa_nil)))), g⟩

end Pf

set_option maxHeartbeats 16000000
namespace Pf
open PySem L2 PfL RZ
local macro_rules | `(tactic| walk_at "ev") => `(tactic| first
  | ((with_reducible refine' ev_var ?h ?_); (case h => rfl))
  | with_reducible refine ev_int ?_
  | with_reducible refine ev_bl ?_
  | with_reducible refine ev_str ?_
  | with_reducible refine ev_non ?_
  | with_reducible refine ev_ty ?_
  | with_reducible refine ev_op ?_
  | with_reducible refine ev_un ?_
  | with_reducible refine ev_chain ?_
  | with_reducible refine ev_if ?_
  | with_reducible refine ev_and ?_
  | with_reducible refine ev_or ?_
  | with_reducible refine ev_not ?_
  | with_reducible refine ev_lst ?_
  | with_reducible refine ev_tup ?_
  | with_reducible refine ea_nil ?_
  | with_reducible refine ea_cons ?_
  | with_reducible refine ev_cb ?_
  | with_reducible refine et_test ?_
  | with_reducible refine et_B ?_
  | with_reducible refine et_and ?_
  | with_reducible refine et_or ?_
  | with_reducible refine et_not ?_
  | with_reducible refine et_yes ?_
  | with_reducible refine eo_none ?_
  | with_reducible refine eo_some ?_
  | with_reducible refine ev_slS ?_
  | with_reducible refine od_int ?_
  | with_reducible refine od_bl ?_
  | with_reducible refine od_eq_int ?_
  | with_reducible refine od_ne_int ?_
  | with_reducible refine od_eq_bl ?_
  | with_reducible refine od_ne_bl ?_
  | with_reducible refine od_eq_str ?_
  | with_reducible refine od_ne_str ?_
  | with_reducible refine od_leS ?_
  | with_reducible refine ud_isN ?_
  | with_reducible refine ud_notN ?_
  | with_reducible refine do_seq ?_
  | with_reducible refine do_set ?_
  | with_reducible refine do_ret ?_
  | with_reducible refine do_retN ?_
  | with_reducible refine do_if ?_
  | with_reducible refine do_next ?_
  | with_reducible refine tg_name ?_
  | with_reducible refine tgs_nil ?_
  | with_reducible refine tgs_cons ?_)
/-! ### copied -/
def preCp (n : Nat) : List D → Prop := fun ds => ∃ x, ds = [x] ∧ plD x = true ∧ dep x ≤ n
theorem preCp_len {n : Nat} : ∀ ds, preCp n ds → ds.length = 1 := fun ds ⟨x, e, _⟩ => by rw [e]; rfl
def preC0 : Nat → List D → Prop
  | 0 => fun _ => False
  | n + 1 => preCp n
theorem cd_tupL {K : PySem.W.Frag} {P : D → Prop} {xs : List D} (p : P (.tup xs)) : CallD K (rTupleK K) [.lst xs] P := fun M H vs Q al r q => by
  cases r with
  | cons r1 r2 =>
    cases r2
    cases r1 with
    | lst h1 h2 => exact ⟨_, _, rfl, .inl ⟨SqL.of (hd_of h1).2, fun l hl => q _ _ _ p (same_new hl) (.tup (SqT.of (hd_new al hl)) (h2.mono (same_hdM (same_new hl))))⟩⟩
theorem take_more {α : Type} {xs : List α} {i : Nat} {x : α} (h : xs[i]? = some x) : xs.take (i + 1) = xs.take i ++ [x] := by rw [List.take_succ, h]; rfl
theorem ok_copied_ {P : Program} {w : World} {K : PySem.W.Frag} {mg : Str → Option Value} {base : Heap} (T : Txt K mg) (n : Nat) (G : FnOk P w K mg base CX0 n T.f_copied T.fd_copied ["value"] (spD K (preC0 n) fun ds d => ds = [d])) :
    FnOk P w K mg base CX0 (n + 1) T.f_copied T.fd_copied ["value"] (spD K (preCp n) fun ds d => ds = [d]) := by
  refine T.F_copied.ok sc_copied (spD_len preCp_len) (fun cdv A outer s H vs Q E hr h => ?_)
  refine ⟨_, (pss_cons (ps_if (pt_val (pe_callB (callIsi K) (by rfl) T.b_isinstance (by decide +kernel) (pa_cons (pv 0) (pa_cons (pe_bltn (v := .ty "list") (by rfl) T.b_list (by decide +kernel) rfl) pa_nil)))) (pss_one (ps_ret (pe_lc (own := [("item", 1)]) rfl sc_copied.nd (piL K (pv 0)) (blkOk_by (N := N_copied) (sc := defScope s_copied) (by decide +kernel)) (fun _ _ _ _ _ => (pg_name (i := 1) sc_copied.nd rfl (Or.inl rfl))) (fun _ _ _ _ _ => pts_nil) (fun _ _ _ _ _ => (pe_call G hr rfl T.g_copied T.k_copied T.bd_copied .nil pass0 (pa_cons (pv 1) pa_nil)))))) pss_nil)
    (pss_cons (ps_if (pt_val (pe_callB (callIsi K) (by rfl) T.b_isinstance (by decide +kernel) (pa_cons (pv 0) (pa_cons (pe_bltn (v := .ty "tuple") (by rfl) T.b_tuple (by decide +kernel) rfl) pa_nil)))) (pss_one (ps_ret (pe_callTy (callTuple K) (by rfl) T.b_tuple (by decide +kernel) (pa_cons (pe_lc (own := [("item", 1)]) rfl sc_copied.nd (piT K (pv 0)) (blkOk_by (N := N_copied) (sc := defScope s_copied) (by decide +kernel)) (fun _ _ _ _ _ => (pg_name (i := 1) sc_copied.nd rfl (Or.inl rfl))) (fun _ _ _ _ _ => pts_nil) (fun _ _ _ _ _ => (pe_call G hr rfl T.g_copied T.k_copied T.bd_copied .nil pass0 (pa_cons (pv 1) pa_nil)))) pa_nil)))) pss_nil)
    (pss_one (ps_ret (pv 0))))), ?_⟩
  refine enterD h fun M ds pre _ => ?_
  obtain ⟨x, rfl, px, hd⟩ := pre
  obtain ⟨a, ha⟩ := ty_of px
  have isx : ∀ {n : String} {P : D → Prop}, n ∈ tyAsk → P (.bl (isD x n)) → CallD K (rIsi K) [x, .ty n] P := fun hn p => cd_isi ha hn p
  have one : ∀ {F : Fm} {δ : List SD} {E : XK} {xs : List D} {i : Nat} {d : D} {P : D → Prop}, F.K = K → plL xs = true → depL xs + 1 ≤ n → xs[i]? = some d → δ[1]? = some (.dat d) → P d → Ev F (tCall (spD K (preC0 n) fun ds d => ds = [d]) [] E (tCons (tVar 1) tNil)) δ P := fun {F δ E xs i d P} eK pl dl hi h1 p => by
    subst eK
    obtain ⟨k, rfl⟩ : ∃ k, n = k + 1 := ⟨n - 1, by omega⟩
    refine ev_call (ea_cons (ev_var h1 (ea_nil ⟨⟨d, rfl, plL_get pl hi, ?_⟩, fun d' e => ?_⟩)))
    · have := depL_get hi
      omega
    · cases e
      exact p
  refine do_seq (do_if (et_test ?_))
  repeat (first | walk_at "ev" | refine isx (by decide) ?_)
  refine ⟨_, rfl, fun h1 => ?_, fun h1 => do_next ?_⟩
  · obtain ⟨xs, rfl⟩ : ∃ xs, x = .lst xs := by cases x <;> first | exact ⟨_, rfl⟩ | (simp [isD, tyName, isTy] at h1)
    simp only [plD, Bool.and_eq_true, decide_eq_true_eq] at px
    simp only [dep] at hd
    refine do_ret (EvN.ev ?_)
    refine en_lc (js := [1]) (PX := fun l => l = xs) (it_list (ev_var rfl ⟨_, rfl, rfl⟩)) (fun l e => by rw [e]; omega) (by decide) (fun l i acc => acc = xs.take i) (fun l e => rfl) ?_ ?_
    · rintro l i d acc rfl hi rfl
      refine tg_name (et_yes ⟨fun _ => ?_, fun h => nomatch h⟩)
      exact one rfl px.2 hd hi rfl (take_more hi).symm
    · rintro l ds rfl rfl
      rw [List.take_length]
  · refine do_seq (do_if (et_test ?_))
    repeat (first | walk_at "ev" | refine isx (by decide) ?_)
    refine ⟨_, rfl, fun h2 => ?_, fun h2 => do_next ?_⟩
    · obtain ⟨xs, rfl⟩ : ∃ xs, x = .tup xs := by cases x <;> first | exact ⟨_, rfl⟩ | (simp [isD, tyName, isTy] at h2)
      simp only [plD, Bool.and_eq_true, decide_eq_true_eq] at px
      simp only [dep] at hd
      refine do_ret (ev_cb (ea_cons (EvN.ev ?_)))
      refine en_lc (js := [1]) (PX := fun l => l = xs) (it_tup (ev_var rfl ⟨_, rfl, rfl⟩)) (fun l e => by rw [e]; omega) (by decide) (fun l i acc => acc = xs.take i) (fun l e => rfl) ?_ ?_
      · rintro l i d acc rfl hi rfl
        refine tg_name (et_yes ⟨fun _ => ?_, fun h => nomatch h⟩)
        exact one rfl px.2 hd hi rfl (take_more hi).symm
      · rintro l ds rfl rfl
        rw [List.take_length]
        exact ea_nil (cd_tupL rfl)
    · exact do_ret (ev_var rfl rfl)
theorem ok_copied {P : Program} {w : World} {K : PySem.W.Frag} {mg : Str → Option Value} {base : Heap} (T : Txt K mg) : ∀ n, FnOk P w K mg base CX0 (n + 1) T.f_copied T.fd_copied ["value"] (spD K (preCp n) fun ds d => ds = [d]) := by
  intro n
  induction n with
  | zero => exact ok_copied_ T 0 ⟨fun vs H Q E ⟨_, _, _, _, p, _⟩ => p.elim, fun A outer s H args us vs Q E _ _ _ _ ⟨_, _, _, _, p, _⟩ => p.elim⟩
  | succ n ih => exact ok_copied_ T (n + 1) ih
theorem ok_InvalidText_init {P : Program} {w : World} {K : PySem.W.Frag} {mg : Str → Option Value} {base : Heap} (T : Txt K mg) : FnOk P w K mg base CX0 8 T.f_InvalidText_init T.fd_InvalidText_init ["self", "line"] (spY K T.c_InvalidText (preCp 4) (postX1 "InvalidText" "line")) := by
  refine T.F_InvalidText_init.ok sc_InvalidText_init (fun vs H Q E h => spY_len preCp_len h) (fun cdv A outer s H vs Q E hr h => ?_)
  exact ⟨_, (pss_cons (ps_xst (pv 0) pe_str)
    (pss_one (ps_xst (pv 0) (pe_call (ok_copied T 4) (hr.mono (by decide)) rfl T.g_copied T.k_copied T.bd_copied .nil pass0 (pa_cons (pv 1) pa_nil))))), initY1 T.xa_InvalidText.x (T.xa_InvalidText.no _ (by decide)) (T.xa_InvalidText.no _ (by decide)) h preCp_len⟩

end Pf

set_option maxHeartbeats 16000000
namespace Pf
open PySem L2 PfL RZ
local macro_rules | `(tactic| walk_at "ev") => `(tactic| first
  | ((with_reducible refine' ev_var ?h ?_); (case h => rfl))
  | with_reducible refine ev_int ?_
  | with_reducible refine ev_bl ?_
  | with_reducible refine ev_str ?_
  | with_reducible refine ev_non ?_
  | with_reducible refine ev_ty ?_
  | with_reducible refine ev_op ?_
  | with_reducible refine ev_un ?_
  | with_reducible refine ev_chain ?_
  | with_reducible refine ev_if ?_
  | with_reducible refine ev_and ?_
  | with_reducible refine ev_or ?_
  | with_reducible refine ev_not ?_
  | with_reducible refine ev_lst ?_
  | with_reducible refine ev_tup ?_
  | with_reducible refine ea_nil ?_
  | with_reducible refine ea_cons ?_
  | with_reducible refine ev_cb ?_
  | with_reducible refine et_test ?_
  | with_reducible refine et_B ?_
  | with_reducible refine et_and ?_
  | with_reducible refine et_or ?_
  | with_reducible refine et_not ?_
  | with_reducible refine et_yes ?_
  | with_reducible refine eo_none ?_
  | with_reducible refine eo_some ?_
  | with_reducible refine ev_slS ?_
  | with_reducible refine od_int ?_
  | with_reducible refine od_bl ?_
  | with_reducible refine od_eq_int ?_
  | with_reducible refine od_ne_int ?_
  | with_reducible refine od_eq_bl ?_
  | with_reducible refine od_ne_bl ?_
  | with_reducible refine od_eq_str ?_
  | with_reducible refine od_ne_str ?_
  | with_reducible refine od_leS ?_
  | with_reducible refine ud_isN ?_
  | with_reducible refine ud_notN ?_
  | with_reducible refine do_seq ?_
  | with_reducible refine do_set ?_
  | with_reducible refine do_ret ?_
  | with_reducible refine do_retN ?_
  | with_reducible refine do_if ?_
  | with_reducible refine do_next ?_
  | with_reducible refine tg_name ?_
  | with_reducible refine tgs_nil ?_
  | with_reducible refine tgs_cons ?_)
/-! ### states and readers on data -/
abbrev StT := Int × List Int × Option Int × Option Int
def optD : Option Int → D
  | none => .non
  | some i => .int i
def stD (s : StT) : D := .tup [.int s.1, .tup (s.2.1.map .int), optD s.2.2.1, optD s.2.2.2]
def stsD (ss : List StT) : List D := ss.map stD
def OptIn (n : Int) (o : Option Int) : Prop := ∀ i, o = some i → 0 ≤ i ∧ i ≤ n - 1
structure GoodSt (n : Int) (P : Nat) (s : StT) : Prop where
  s0 : 1 ≤ s.1
  s1 : s.1 ≤ 9
  al : s.2.1.length = P
  as : ∀ a ∈ s.2.1, 1 ≤ a ∧ a ≤ 9
  fu : OptIn n s.2.2.1
  th : OptIn n s.2.2.2
structure GoodSts (P : Nat) (ss : List StT) : Prop where
  n0 : 0 < ss.length
  n6 : ss.length ≤ 6
  p0 : 1 ≤ P
  p4 : P ≤ 4
  st : ∀ s ∈ ss, GoodSt ss.length P s
theorem stsD_len {ss : List StT} : (stsD ss).length = ss.length := by simp [stsD]
theorem stsD_get {ss : List StT} {i : Nat} {d : D} (h : (stsD ss)[i]? = some d) : ∃ r, ss[i]? = some r ∧ d = stD r := by
  unfold stsD at h
  rw [List.getElem?_map] at h
  cases e : ss[i]? with
  | none => rw [e] at h; cases h
  | some r =>
    rw [e] at h
    exact ⟨r, rfl, (Option.some.inj h).symm⟩
theorem ints_inj {xs ys : List Int} (h : xs.map D.int = ys.map D.int) : xs = ys := by
  have hm := congrArg (List.map fun d => match d with | D.int i => i | _ => 0) h
  simpa [List.map_map, Function.comp_def] using hm
theorem optD_inj {a b : Option Int} (h : optD a = optD b) : a = b := by
  cases a <;> cases b <;> simp_all [optD]
theorem stD_inj {s t : StT} (h : stD s = stD t) : s = t := by
  obtain ⟨a, b, c, d⟩ := s
  obtain ⟨a', b', c', d'⟩ := t
  simp only [stD, D.tup.injEq, List.cons.injEq, D.int.injEq, and_true] at h
  obtain ⟨rfl, h2, h3, h4⟩ := h
  rw [ints_inj h2, optD_inj h3, optD_inj h4]
theorem stsD_inj : ∀ {xs ys : List StT}, stsD xs = stsD ys → xs = ys
  | [], [], _ => rfl
  | [], _ :: _, h => by cases h
  | _ :: _, [], h => by cases h
  | x :: xs, y :: ys, h => by
    simp only [stsD, List.map_cons, List.cons.injEq] at h
    rw [stD_inj h.1, stsD_inj (xs := xs) (ys := ys) h.2]
theorem ev_num {F : Fm} {δ : List SD} {ta : TA} {P : D → Prop} {E : XK} (h : EvA F ta δ fun ds => ∃ x lo hi, ds = [x, .int lo, .int hi] ∧ plD x = true ∧ P (.bl (isNum x lo hi))) : Ev F (tCall (spD F.K preNum postNum) [] E ta) δ P :=
  ev_call (h.imp fun ds ⟨x, lo, hi, e, px, p⟩ => ⟨⟨x, lo, hi, e, px⟩, fun d ⟨x', lo', hi', e', ed⟩ => by
    subst e
    cases e'
    subst ed
    exact p⟩)
theorem isNum_yes {i lo hi : Int} (h1 : lo ≤ i) (h2 : i ≤ hi) : isNum (.int i) lo hi = true := by simp [isNum, h1, h2]
def postNon : List D → D → Prop := fun _ d => d = .non
theorem plD_opt (o : Option Int) : plD (optD o) = true := by cases o <;> simp [optD, plD]
def askP (z : D) : Bool := isNum z 1 9
theorem ok__is_ask {P : Program} {w : World} {K : PySem.W.Frag} {mg : Str → Option Value} {base : Heap} (T : Txt K mg) : FnOk P w K mg base CX0 4 T.f__is_ask T.fd__is_ask ["value"] (spD K (fun ds => ∃ z, ds = [z] ∧ plD z = true) (fun ds d => ∃ z, ds = [z] ∧ d = .bl (askP z))) := by
  refine T.F__is_ask.ok sc__is_ask (spD_len fun ds ⟨P, e, _⟩ => by rw [e]; rfl) (fun cdv A outer s H vs Q E hr h => ?_)
  refine ⟨_, (pss_one (ps_ret (pe_call (ok_is_number T) (hr.mono (by decide)) rfl T.g_is_number T.k_is_number T.bd_is_number .nil pass0 (pa_cons (pv 0) (pa_cons pe_int (pa_cons (peCval K (pe_glob (v := .ref T.c_Reader) rfl T.g_Reader rfl)) pa_nil)))))), ?_⟩
  refine enterD h fun M ds pre _ => ?_
  obtain ⟨z, rfl, pz⟩ := pre
  obtain ⟨u, cv⟩ := T.cv_Reader_MOST_ASK
  exact do_ret (ev_num (ea_cons (ev_var rfl (ea_cons (ev_int (ea_cons (ev_cval T.cr_Reader cv (ea_nil ⟨_, _, _, rfl, pz, z, rfl, rfl⟩) (ev_adr rfl))))))))
def areAsk (v : D) : Bool := match v with
  | .tup zs => decide (1 ≤ zs.length) && (decide (zs.length ≤ 4) && zs.all askP)
  | _ => false
theorem pl_mem : ∀ {zs : List D} {z : D}, plL zs = true → z ∈ zs → plD z = true
  | y :: zs, z, h, hm => by
    have h : (plD y && plL zs) = true := h
    rw [Bool.and_eq_true] at h
    rcases List.mem_cons.mp hm with rfl | hm
    · exact h.1
    · exact pl_mem h.2 hm
theorem ok__are_asks {P : Program} {w : World} {K : PySem.W.Frag} {mg : Str → Option Value} {base : Heap} (T : Txt K mg) : FnOk P w K mg base CX0 6 T.f__are_asks T.fd__are_asks ["value"] (spD K (fun ds => ∃ z, ds = [z] ∧ plD z = true) (fun ds d => ∃ z, ds = [z] ∧ d = .bl (areAsk z))) := by
  refine T.F__are_asks.ok sc__are_asks (spD_len fun ds ⟨P, e, _⟩ => by rw [e]; rfl) (fun cdv A outer s H vs Q E hr h => ?_)
  refine ⟨_, (pss_one (ps_ret (pe_and (pe_callB (callIsi K) (by rfl) T.b_isinstance (by decide +kernel) (pa_cons (pv 0) (pa_cons (pe_bltn (v := .ty "tuple") (by rfl) T.b_tuple (by decide +kernel) rfl) pa_nil))) (pe_and (pe_chain op_le op_le pe_int (pe_callB (callLen K) (by rfl) T.b_len (by decide +kernel) (pa_cons (pv 0) pa_nil)) (peCval K (pe_glob (v := .ref T.c_Table) rfl T.g_Table rfl))) (pe_one (pe_callB (callAll K) (by rfl) T.b_all (by decide +kernel) (pa_cons (pe_lc (own := [("ask", 1)]) rfl sc__are_asks.nd (piT K (pv 0)) (blkOk_by (N := N__are_asks) (sc := defScope s__are_asks) (by decide +kernel)) (fun _ _ _ _ _ => (pg_name (i := 1) sc__are_asks.nd rfl (Or.inl rfl))) (fun _ _ _ _ _ => pts_nil) (fun _ _ _ _ _ => (pe_call (ok__is_ask T) (hr.mono (by decide)) rfl T.g__is_ask T.k__is_ask T.bd__is_ask .nil pass0 (pa_cons (pv 1) pa_nil)))) pa_nil))))))), ?_⟩
  refine enterD h fun M ds pre _ => ?_
  obtain ⟨x, rfl, px⟩ := pre
  obtain ⟨u, cv⟩ := T.cv_Table_MOST_PARTS
  obtain ⟨ty, hty⟩ : ∃ a, tyName x = some a := by cases x <;> first | exact ⟨_, rfl⟩ | cases px
  refine do_ret (ev_and (ev_cb (ea_cons (ev_var rfl (ea_cons (ev_ty (ea_nil (cd_isi hty (by decide) ⟨_, rfl, fun hb => ?_, fun hb => ⟨x, rfl, ?_⟩⟩))))))))
  rotate_left
  · cases x with
    | tup zs =>
      have ht : isD (.tup zs) "tuple" = true := by rfl
      rw [ht] at hb
      cases hb
    | _ => rfl
  obtain ⟨zs, rfl⟩ : ∃ zs, x = .tup zs := by
    cases x with
    | tup zs => exact ⟨zs, rfl⟩
    | _ => cases hb
  have px' : zs.length ≤ 10000 ∧ plL zs = true := by
    simp only [plD, Bool.and_eq_true, decide_eq_true_eq] at px
    exact px
  have d1 : decide ((1 : Int) ≤ (zs.length : Int)) = decide (1 ≤ zs.length) := decide_eq_decide.mpr (by omega)
  have d4 : decide ((zs.length : Int) ≤ 4) = decide (zs.length ≤ 4) := decide_eq_decide.mpr (by omega)
  refine ev_and (ev_chain (ev_int (ev_cb (ea_cons (ev_var rfl (ea_nil (cd_lenK (k := zs.length) rfl (by omega) (od_bl ⟨_, rfl, fun h => ?_, fun h => ⟨_, rfl, (fun z => by cases z), fun _ => ⟨.tup zs, rfl, ?_⟩⟩⟩))))))))
  rotate_left
  · rw [d1] at h
    simp only [areAsk, h, Bool.false_and]
  rw [d1] at h
  refine ev_cval T.cr_Table cv (od_bl ⟨_, rfl, fun h4 => ?_, fun h4 => ⟨.tup zs, rfl, ?_⟩⟩) (ev_adr rfl)
  rotate_left
  · rw [d4] at h4
    simp only [areAsk, h, h4, Bool.false_and, Bool.and_false]
  rw [d4] at h4
  refine ev_cb (ea_cons (EvN.ev ?_))
  refine en_lc (js := [1]) (PX := fun l => l = zs) (it_tup (ev_var rfl ⟨_, rfl, rfl⟩)) (fun l e => by rw [e]; omega) (by decide) (fun l i acc => acc = blD ((zs.take i).map askP)) (fun l e => rfl) ?_ ?_
  · rintro l i z acc rfl hi rfl
    refine tg_name (et_yes ⟨fun _ => ?_, fun h => nomatch h⟩)
    refine ev_call (ea_cons (ev_var rfl (ea_nil ⟨⟨z, rfl, pl_mem px'.2 (List.mem_of_getElem? hi)⟩, fun d hd => ?_⟩)))
    obtain ⟨z', e, rfl⟩ := hd
    cases e
    rw [List.take_succ, hi]
    simp [blD]
  · rintro l ds rfl rfl
    rw [List.take_length]
    refine ea_nil (cd_all ⟨.tup l, rfl, ?_⟩)
    simp only [areAsk, h, h4, Bool.true_and, List.all_map]
    rfl
def folD (v : D) (n : Int) : Bool := isNon v || isNum v 0 (n - 1)
theorem ok__is_following {P : Program} {w : World} {K : PySem.W.Frag} {mg : Str → Option Value} {base : Heap} (T : Txt K mg) : FnOk P w K mg base CX0 4 T.f__is_following T.fd__is_following ["value", "many"] (spD K (fun ds => ∃ (z : D) (n : Int), ds = [z, .int n] ∧ plD z = true) (fun ds d => ∃ (z : D) (n : Int), ds = [z, .int n] ∧ d = .bl (folD z n))) := by
  refine T.F__is_following.ok sc__is_following (spD_len fun ds ⟨o, n, e, _⟩ => by rw [e]; rfl) (fun cdv A outer s H vs Q E hr h => ?_)
  refine ⟨_, (pss_one (ps_ret (pe_or (pe_cmpR op_isN (pv 0) pe_non (nomark _)) (pe_one (pe_call (ok_is_number T) (hr.mono (by decide)) rfl T.g_is_number T.k_is_number T.bd_is_number .nil pass0 (pa_cons (pv 0) (pa_cons pe_int (pa_cons (pe_op op_sub (pv 1) pe_int) pa_nil)))))))), ?_⟩
  refine enterD h fun M ds pre _ => ?_
  obtain ⟨z, n, rfl, pz⟩ := pre
  refine do_ret (ev_or (ev_op (ev_var rfl (ev_non (ud_isN ⟨_, rfl, fun h => ?_, fun h => ⟨z, n, rfl, by unfold folD; rw [h]; rfl⟩⟩)))))
  refine ev_num (ea_cons (ev_var rfl (ea_cons (ev_int (ea_cons (ev_op (ev_var rfl (ev_int (od_int (ea_nil ⟨_, _, _, rfl, pz, z, n, rfl, ?_⟩))))))))))
  unfold folD
  rw [h, Bool.false_or]
def isSt (v : D) (n : Int) : Bool := match v with
  | .tup [s, a, f, t] => isNum s 1 9 && (areAsk a && (folD f n && folD t n))
  | _ => false
def preSt : List D → Prop := fun ds => ∃ (v : D) (n : Int), ds = [v, .int n] ∧ plD v = true
def postSt : List D → D → Prop := fun ds d => ∃ (v : D) (n : Int), ds = [v, .int n] ∧ d = .bl (isSt v n)
theorem ok__is_state {P : Program} {w : World} {K : PySem.W.Frag} {mg : Str → Option Value} {base : Heap} (T : Txt K mg) : FnOk P w K mg base CX0 8 T.f__is_state T.fd__is_state ["value", "many"] (spD K preSt postSt) := by
  refine T.F__is_state.ok sc__is_state (spD_len fun ds ⟨v, n, e, _⟩ => by rw [e]; rfl) (fun cdv A outer s H vs Q E hr h => ?_)
  refine ⟨_, (pss_cons (ps_if (PW.pt (pw_or (pt_not (pt_val (pe_callB (callIsi K) (by rfl) T.b_isinstance (by decide +kernel) (pa_cons (pv 0) (pa_cons (pe_bltn (v := .ty "tuple") (by rfl) T.b_tuple (by decide +kernel) rfl) pa_nil))))) (pw_or1 (pt_cmpR op_ne (pe_callB (callLen K) (by rfl) T.b_len (by decide +kernel) (pa_cons (pv 0) pa_nil)) pe_int (nomark _))))) (pss_one (ps_ret pe_bl)) pss_nil)
    (pss_cons (ps_asg (pv 0) (pgTup K (n := 4) rfl (pgs_cons (pg_name (i := 2) sc__is_state.nd rfl (Or.inl rfl)) (pgs_cons (pg_name (i := 3) sc__is_state.nd rfl (Or.inl rfl)) (pgs_cons (pg_name (i := 4) sc__is_state.nd rfl (Or.inl rfl)) (pgs_cons (pg_name (i := 5) sc__is_state.nd rfl (Or.inl rfl)) pgs_nil))))))
    (pss_one (ps_ret (pe_and (pe_call (ok_is_number T) (hr.mono (by decide)) rfl T.g_is_number T.k_is_number T.bd_is_number .nil pass0 (pa_cons (pv 2) (pa_cons pe_int (pa_cons (pe_glob (v := .int 9) rfl T.g__MOST_SIZE ⟨_, rfl⟩) pa_nil)))) (pe_and (pe_call (ok__are_asks T) (hr.mono (by decide)) rfl T.g__are_asks T.k__are_asks T.bd__are_asks .nil pass0 (pa_cons (pv 3) pa_nil)) (pe_and (pe_call (ok__is_following T) (hr.mono (by decide)) rfl T.g__is_following T.k__is_following T.bd__is_following .nil pass0 (pa_cons (pv 4) (pa_cons (pv 1) pa_nil))) (pe_one (pe_call (ok__is_following T) (hr.mono (by decide)) rfl T.g__is_following T.k__is_following T.bd__is_following .nil pass0 (pa_cons (pv 5) (pa_cons (pv 1) pa_nil))))))))))), ?_⟩
  refine enterD h fun M ds pre _ => ?_
  obtain ⟨v, n, rfl, pv⟩ := pre
  obtain ⟨ty, hty⟩ : ∃ a, tyName v = some a := by cases v <;> first | exact ⟨_, rfl⟩ | cases pv
  refine do_seq (do_if (et_or (et_not (et_test (ev_cb (ea_cons (ev_var rfl (ea_cons (ev_ty (ea_nil (cd_isi hty (by decide) ⟨_, rfl, fun hb => ?_, fun hb => ⟨fun _ => do_ret (ev_bl ⟨v, n, rfl, ?_⟩), fun h => nomatch h⟩⟩)))))))))))
  rotate_left
  · have hb : isD v "tuple" = false := by simpa using hb
    cases v with
    | tup zs =>
      have ht : isD (.tup zs) "tuple" = true := by rfl
      rw [ht] at hb
      cases hb
    | _ => rfl
  have hb : isD v "tuple" = true := by simpa using hb
  obtain ⟨zs, rfl⟩ : ∃ zs, v = .tup zs := by
    cases v with
    | tup zs => exact ⟨zs, rfl⟩
    | _ => cases hb
  have px' : zs.length ≤ 10000 ∧ plL zs = true := by
    simp only [plD, Bool.and_eq_true, decide_eq_true_eq] at pv
    exact pv
  refine et_test (ev_op (ev_cb (ea_cons (ev_var rfl (ea_nil (cd_lenK (k := zs.length) rfl (by omega) (ev_int (od_ne_int ⟨_, rfl, fun h4 => do_ret (ev_bl ⟨.tup zs, n, rfl, ?_⟩), fun h4 => do_next ?_⟩))))))))
  · have h4 : ¬ (zs.length : Int) = 4 := by simpa using h4
    rcases zs with _ | ⟨a, _ | ⟨b, _ | ⟨c, _ | ⟨d, _ | ⟨e, zs⟩⟩⟩⟩⟩
    · rfl
    · rfl
    · rfl
    · rfl
    · exact absurd rfl h4
    · rfl
  have h4 : (zs.length : Int) = 4 := by simpa using h4
  obtain ⟨sz, as, fu, th, rfl⟩ : ∃ a b c d, zs = [a, b, c, d] := by
    rcases zs with _ | ⟨a, _ | ⟨b, _ | ⟨c, _ | ⟨d, _ | ⟨e, zs⟩⟩⟩⟩⟩
    · simp at h4
    · simp at h4
    · simp at h4
    · simp at h4
    · exact ⟨a, b, c, d, rfl⟩
    · simp at h4
      omega
  have p1 := pl_mem px'.2 (show sz ∈ [sz, as, fu, th] by simp)
  have p2 := pl_mem px'.2 (show as ∈ [sz, as, fu, th] by simp)
  have p3 := pl_mem px'.2 (show fu ∈ [sz, as, fu, th] by simp)
  have p4 := pl_mem px'.2 (show th ∈ [sz, as, fu, th] by simp)
  refine do_seq (do_asg (js := [2, 3, 4, 5]) (ev_var rfl (tg_tup rfl ?_)))
  refine tgs_cons (js := [2]) (ks := [3, 4, 5]) (tg_name (tgs_cons (js := [3]) (ks := [4, 5]) (tg_name (tgs_cons (js := [4]) (ks := [5]) (tg_name (tgs_cons (js := [5]) (ks := []) (tg_name (tgs_nil ?_))))))))
  refine do_ret (ev_and (ev_num ?_))
  refine ea_cons (ev_var rfl (ea_cons (ev_int (ea_cons (ev_int (ea_nil ⟨_, _, _, rfl, p1, _, rfl, fun h1 => ?_, fun h1 => ⟨_, n, rfl, by simp only [isSt, h1, Bool.false_and]⟩⟩))))))
  refine ev_and (ev_call (ea_cons (ev_var rfl (ea_nil ⟨⟨as, rfl, p2⟩, fun d ⟨_, e, hd⟩ => ⟨_, hd, fun h2 => ?_, fun h2 => ?_⟩⟩))))
  · cases e
    refine ev_and (ev_call (ea_cons (ev_var rfl (ea_cons (ev_var rfl (ea_nil ⟨⟨fu, n, rfl, p3⟩, fun d ⟨_, _, e, hd⟩ => ⟨_, hd, fun h3 => ?_, fun h3 => ?_⟩⟩))))))
    · cases e
      refine ev_call (ea_cons (ev_var rfl (ea_cons (ev_var rfl (ea_nil ⟨⟨th, n, rfl, p4⟩, fun d ⟨_, _, e, hd⟩ => ?_⟩)))))
      cases e
      exact ⟨_, n, rfl, by rw [hd]; simp only [isSt, h1, h2, h3, Bool.true_and]⟩
    · cases e
      exact ⟨_, n, rfl, by simp only [isSt, h1, h2, h3, Bool.true_and, Bool.false_and, Bool.and_false]⟩
  · cases e
    exact ⟨_, n, rfl, by simp only [isSt, h1, h2, Bool.true_and, Bool.false_and]⟩
theorem fol_yes {o : Option Int} {n : Int} (h : OptIn n o) : folD (optD o) n = true := by
  cases o with
  | none => rfl
  | some i =>
    obtain ⟨h1, h2⟩ := h i rfl
    show (_ || isNum (.int i) 0 (n - 1)) = true
    rw [isNum_yes h1 h2, Bool.or_true]
theorem isSt_yes {s : StT} {n : Int} {P : Nat} (p1 : 1 ≤ P) (p4 : P ≤ 4) (g : GoodSt n P s) : isSt (stD s) n = true := by
  obtain ⟨sz, as, fu, th⟩ := s
  have al : as.length = P := g.al
  show (isNum (.int sz) 1 9 && (areAsk (.tup (as.map .int)) && (folD (optD fu) n && folD (optD th) n))) = true
  rw [isNum_yes g.s0 g.s1, fol_yes g.fu, fol_yes g.th]
  have : areAsk (.tup (as.map .int)) = true := by
    show (decide _ && (decide _ && _)) = true
    rw [decide_eq_true (by rw [List.length_map]; omega), decide_eq_true (by rw [List.length_map]; omega)]
    simp only [Bool.true_and, List.all_eq_true]
    intro z hz
    obtain ⟨a, ha, rfl⟩ := List.mem_map.mp hz
    have := g.as a ha
    exact isNum_yes this.1 this.2
  rw [this]
  rfl
theorem plD_st {s : StT} {n : Int} {P : Nat} (p4 : P ≤ 4) (g : GoodSt n P s) : plD (stD s) = true := by
  obtain ⟨sz, as, fu, th⟩ := s
  have al : as.length = P := g.al
  have : plL (as.map D.int) = true := by
    clear al g
    induction as with
    | nil => simp [plL]
    | cons a as ih => simp [plL, plD, ih]
  simp [stD, plD, plL, this, plD_opt]
  omega
def preSts : List D → Prop := fun es => ∃ (P : Nat) (ss : List StT), es = stsD ss ∧ GoodSts P ss
theorem ok__check_states {P : Program} {w : World} {K : PySem.W.Frag} {mg : Str → Option Value} {base : Heap} (T : Txt K mg) : FnOk P w K mg base CX0 10 T.f__check_states T.fd__check_states ["states"] (spS K preSts postNon) := by
  refine T.F__check_states.ok sc__check_states spS_len (fun cdv A outer s H vs Q E hr h => ?_)
  refine ⟨_, (pss_cons (ps_if (pt_cmpR op_eq (pe_callB (callLen K) (by rfl) T.b_len (by decide +kernel) (pa_cons (pv 0) pa_nil)) pe_int (nomark _)) (pss_one ps_never) pss_nil)
    (pss_one (ps_for PassesOwn.never rfl (pi_enumA K (by rfl) T.b_enumerate (pa_cons (pv 0) pa_nil)) (pgTup K (n := 2) rfl (pgs_cons (pg_name (i := 1) sc__check_states.nd rfl (Or.inl rfl)) (pgs_cons (pg_name (i := 2) sc__check_states.nd rfl (Or.inl rfl)) pgs_nil)))
      (pss_one (ps_if (PW.pt (pw_or (pt_cmpR op_eq (pv 1) (peCval K (pe_glob (v := .ref T.c_Reader) rfl T.g_Reader rfl)) (nomark _)) (pw_or (pt_not (pt_val (pe_call (ok__is_state T) (hr.mono (by decide)) rfl T.g__is_state T.k__is_state T.bd__is_state .nil pass0 (pa_cons (pv 2) (pa_cons (pe_callB (callLen K) (by rfl) T.b_len (by decide +kernel) (pa_cons (pv 0) pa_nil)) pa_nil))))) (pw_or1 (pt_cmpR op_ne (pe_callB (callLen K) (by rfl) T.b_len (by decide +kernel) (pa_cons (pe_ix (ixT K) (pv 2) pe_int (fun _ _ => rfl)) pa_nil)) (pe_callB (callLen K) (by rfl) T.b_len (by decide +kernel) (pa_cons (pe_ix (ixT K) (pe_ix (ixA K) (pv 0) pe_int (fun _ _ => rfl)) pe_int (fun _ _ => rfl)) pa_nil)) (nomark _)))))) (pss_one ps_never) pss_nil))))), ?_⟩
  refine enterS h fun M es pre => ?_
  obtain ⟨P, ss, rfl, g⟩ := pre
  have n0 := g.n0
  have n6 := g.n6
  obtain ⟨u, cv⟩ := T.cv_Reader_MOST_STATES
  refine do_seq (do_if (et_test (ev_op (ev_lenSq rfl (ev_int (od_eq_int ⟨_, rfl, fun h => ?_, fun _ => do_next ?_⟩))))))
  · have := of_decide_eq_true h
    rw [stsD_len] at this
    omega
  refine do_for (js := [1, 2]) (PX := fun l => l = numbered (stsD ss)) (it_enumSq rfl rfl) (fun l i δ => ∃ a b, δ = [.sq (stsD ss), a, b]) (fun l e => ⟨.un, .un, rfl⟩) ?_ ?_
  · rintro l i d δ' rfl hi ⟨a, b, rfl⟩
    have hlt : i < (stsD ss).length := by
      have := (List.getElem?_eq_some_iff.mp hi).1
      rwa [numbered_len] at this
    obtain ⟨r, hr', hrd⟩ := stsD_get (List.getElem?_eq_getElem hlt)
    have he := numbered_get (List.getElem?_eq_getElem hlt)
    rw [hi] at he
    obtain rfl := Option.some.inj he
    rw [hrd]
    rw [stsD_len] at hlt
    have gs := g.st r (List.mem_of_getElem? hr')
    obtain ⟨s0, ss', hss⟩ : ∃ s0 ss', ss = s0 :: ss' := by
      cases ss with
      | nil => simp at n0
      | cons a b => exact ⟨_, _, rfl⟩
    have g0 := g.st s0 (by rw [hss]; simp)
    refine tg_tup rfl (tgs_cons (js := [1]) (ks := [2]) (tg_name (tgs_cons (js := [2]) (ks := []) (tg_name (tgs_nil ?_)))))
    refine do_if (et_or (et_test (ev_op (ev_var rfl (ev_cval T.cr_Reader cv (od_eq_int ⟨_, rfl, fun _ => ?_, fun h => ?_⟩) (ev_adr rfl))))))
    · refine et_or (et_not (et_test (ev_call (ea_cons (ev_var rfl (ea_cons (ev_lenSq rfl (ea_nil ⟨⟨stD r, _, rfl, plD_st g.p4 gs⟩, ?_⟩))))))))
      rintro d ⟨v, n, e, rfl⟩
      obtain ⟨e1, e2⟩ := List.cons.inj e
      subst e1
      obtain rfl := D.int.inj (List.cons.inj e2).1
      rw [isSt_yes g.p0 g.p4 (by rw [stsD_len]; exact gs)]
      refine ⟨_, rfl, fun _ => ?_, fun h => nomatch h⟩
      refine et_test (ev_op (ev_cb (ea_cons (ev_op (ev_var rfl (ev_int (od_ixT (d := .tup (r.2.1.map .int)) rfl (ea_nil (cd_lenK (k := P) (by simp [lenD, gs.al]) (by have := g.p4; omega) ?_)))))))))
      refine ev_cb (ea_cons (ev_op (ev_ixSq (d := stD s0) rfl (by rw [hss]; exact atI_nat (j := 0) (by simp [stsD])) (ev_int (od_ixT (d := .tup (s0.2.1.map .int)) rfl (ea_nil (cd_lenK (k := P) (by simp [lenD, g0.al]) (by have := g.p4; omega) (od_ne_int ⟨_, rfl, fun h => ?_, fun _ => do_next ⟨_, _, rfl⟩⟩))))))))
      simp at h
    · have := of_decide_eq_true h
      omega
  · rintro l δ' rfl ⟨a, b, rfl⟩
    exact rfl
structure RdT where
  m : Str
  i : Str
  o : Str
  ss : List StT
def marks : List Str := ["key", "from", "row", "each", "count", "rest"]
def inners : List Str := ["up", "down"]
def orders : List Str := ["number", "back", "part"]
def partsOf (ss : List StT) : Nat := match ss with
  | [] => 0
  | s :: _ => s.2.1.length
structure GoodRd (r : RdT) : Prop where
  m : r.m ∈ marks
  i : r.i ∈ inners
  o : r.o ∈ orders
  ss : GoodSts (partsOf r.ss) r.ss
def rdF (r : RdT) : List (Str × D) := [("_mark", .str r.m), ("_inner", .str r.i), ("_order", .str r.o), ("_states", .tup (stsD r.ss))]
theorem GoodSts.parts {P : Nat} {ss : List StT} (g : GoodSts P ss) : partsOf ss = P := by
  cases ss with
  | nil => have := g.n0; simp at this
  | cons s r => exact (g.st s (by simp)).al
def preRd : List D → List D → List D → Prop := fun ds es gs => ∃ r : RdT, ds = [.str r.m] ∧ es = stsD r.ss ∧ gs = [.str r.i, .str r.o] ∧ GoodRd r
def postRd : List D → List D → List D → List (Str × D) → Prop := fun ds es gs fs => ∃ r : RdT, ds = [.str r.m] ∧ es = stsD r.ss ∧ gs = [.str r.i, .str r.o] ∧ GoodRd r ∧ fs = rdF r
theorem rd_put (a b c d : D) : putFD "_states" d (putFD "_order" c (putFD "_inner" b (putFD "_mark" a []))) = ([("_mark", a), ("_inner", b), ("_order", c), ("_states", d)] : List (Str × D)) := by rfl
def preOrds : List D → Prop := fun ds => ∃ i o : Str, ds = [.str i, .str o] ∧ i ∈ inners ∧ o ∈ orders
theorem ok_check_orders {P : Program} {w : World} {K : PySem.W.Frag} {mg : Str → Option Value} {base : Heap} (T : Txt K mg) : FnOk P w K mg base CX0 2 T.f_check_orders T.fd_check_orders ["inner", "order"] (spD K preOrds postNon) := by
  refine T.F_check_orders.ok sc_check_orders (spD_len fun ds ⟨i, o, e, _⟩ => by rw [e]; rfl) (fun cdv A outer s H vs Q E hr h => ?_)
  refine ⟨_, (pss_cons (ps_if (pt_cmpR (opNotIn K) (pv 0) (peCval K (pe_glob (v := .ref T.c_Reader) rfl T.g_Reader rfl)) (by with_unfolding_all rfl)) (pss_one ps_never) pss_nil)
    (pss_one (ps_if (pt_cmpR (opNotIn K) (pv 1) (peCval K (pe_glob (v := .ref T.c_Reader) rfl T.g_Reader rfl)) (by with_unfolding_all rfl)) (pss_one ps_never) pss_nil))), ?_⟩
  refine enterD h fun M ds pre _ => ?_
  obtain ⟨i, o, rfl, hi, ho⟩ := pre
  obtain ⟨a2, u2, cv2, sq2⟩ := T.ct_Reader_INNER
  obtain ⟨a3, u3, cv3, sq3⟩ := T.ct_Reader_ORDERS
  refine do_seq (do_if (et_test (ev_op (ev_var (d := .str i) rfl (ev_ctup (zs := inners) T.cr_Reader cv2 sq2 (od_inStrs (neg := true) (t := true) ⟨_, rfl, fun h => ?_, fun _ => do_next ?_⟩) (ev_adr rfl))))))
  · simp [hi] at h
  refine do_if (et_test (ev_op (ev_var (d := .str o) rfl (ev_ctup (zs := orders) T.cr_Reader cv3 sq3 (od_inStrs (neg := true) (t := true) ⟨_, rfl, fun h => ?_, fun _ => do_next rfl⟩) (ev_adr rfl)))))
  simp [ho] at h
theorem ok_Reader_init {P : Program} {w : World} {K : PySem.W.Frag} {mg : Str → Option Value} {base : Heap} (T : Txt K mg) : FnOk P w K mg base CX0 12 T.f_Reader_init T.fd_Reader_init ["self", "mark", "states", "inner", "order"] (spIM K T.c_Reader preRd postRd) := by
  refine T.F_Reader_init.ok sc_Reader_init (spIM_len fun ds es gs ⟨r, e1, _, e2, _⟩ => by rw [e1, e2]; rfl) (fun cdv A outer s H vs Q E hr h => ?_)
  refine ⟨_, (pss_cons (ps_if (pt_cmpR (opNotIn K) (pv 1) (peCval K (pe_glob (v := .ref T.c_Reader) rfl T.g_Reader rfl)) (by with_unfolding_all rfl)) (pss_one ps_never) pss_nil)
    (pss_cons (ps_expr (pe_call (ok_check_orders T) (hr.mono (by decide)) rfl T.g_check_orders T.k_check_orders T.bd_check_orders .nil pass0 (pa_cons (pv 3) (pa_cons (pv 4) pa_nil))))
    (pss_cons (ps_expr (pe_call (ok__check_states T) (hr.mono (by decide)) rfl T.g__check_states T.k__check_states T.bd__check_states .nil pass0 (pa_cons (pv 2) pa_nil)))
    (pss_cons (ps_fld (pv 0) (pv 1) rfl)
    (pss_cons (ps_fld (pv 0) (pv 3) rfl)
    (pss_cons (ps_fld (pv 0) (pv 4) rfl)
    (pss_one (ps_fld (pv 0) (pe_callTy (callTuple K) (by rfl) T.b_tuple (by decide +kernel) (pa_cons (pv 2) pa_nil)) rfl)))))))), ?_⟩
  refine enterIM h fun M H1 x ds es gs X pre _ hX => ?_
  obtain ⟨r, rfl, rfl, rfl, g⟩ := pre
  obtain ⟨a1, u1, cv1, sq1⟩ := T.ct_Reader_MARKS
  have hs : ∀ fs, SeqSlot ((slotsI N_Reader_init x T.c_Reader ([D.str r.m].map .dat ++ X :: [D.str r.i, D.str r.o].map .dat)).set 0 (.own x (.ins T.c_Reader fs))) 2 (stsD r.ss) := fun fs => by
    rcases hX with rfl | rfl
    · exact .inl rfl
    · exact .inr rfl
  refine do_seq (do_if (et_test (ev_op (ev_var (d := .str r.m) rfl (ev_ctup (zs := marks) T.cr_Reader cv1 sq1 (od_inStrs (neg := true) (t := true) ⟨_, rfl, fun h => ?_, fun _ => do_next ?_⟩) (ev_adr rfl))))))
  · simp [g.m] at h
  refine do_seq (do_drop (ev_call (ea_cons (ev_var (d := .str r.i) rfl (ea_cons (ev_var (d := .str r.o) rfl (ea_nil ⟨⟨_, _, rfl, g.i, g.o⟩, fun _ _ => ?_⟩)))))))
  refine do_seq (do_drop (ev_callSeq (hs []) ⟨_, _, rfl, g.ss⟩ fun _ _ => ?_))
  refine do_seq (do_fset (i := 0) rfl T.cf_Reader.cl T.na_Reader_mark (by decide) (ev_var (d := .str r.m) rfl ?_))
  refine do_seq (do_fset (i := 0) rfl T.cf_Reader.cl T.na_Reader_inner (by simp [putFD]) (ev_var (d := .str r.i) rfl ?_))
  refine do_seq (do_fset (i := 0) rfl T.cf_Reader.cl T.na_Reader_order (by simp [putFD]; split <;> simp) (ev_var (d := .str r.o) rfl ?_))
  refine do_fset (i := 0) rfl T.cf_Reader.cl T.na_Reader_states (by show 3 < 1000; decide) (ev_tupSeq (es := stsD r.ss) (by rcases hX with rfl | rfl; exact .inl rfl; exact .inr rfl) ?_)
  exact ⟨_, rfl, r, rfl, rfl, rfl, g, rd_put _ _ _ _⟩

end Pf

set_option maxHeartbeats 16000000
namespace Pf
open PySem L2 PfL RZ
local macro_rules | `(tactic| walk_at "ev") => `(tactic| first
  | ((with_reducible refine' ev_var ?h ?_); (case h => rfl))
  | with_reducible refine ev_int ?_
  | with_reducible refine ev_bl ?_
  | with_reducible refine ev_str ?_
  | with_reducible refine ev_non ?_
  | with_reducible refine ev_ty ?_
  | with_reducible refine ev_op ?_
  | with_reducible refine ev_un ?_
  | with_reducible refine ev_chain ?_
  | with_reducible refine ev_if ?_
  | with_reducible refine ev_and ?_
  | with_reducible refine ev_or ?_
  | with_reducible refine ev_not ?_
  | with_reducible refine ev_lst ?_
  | with_reducible refine ev_tup ?_
  | with_reducible refine ea_nil ?_
  | with_reducible refine ea_cons ?_
  | with_reducible refine ev_cb ?_
  | with_reducible refine et_test ?_
  | with_reducible refine et_B ?_
  | with_reducible refine et_and ?_
  | with_reducible refine et_or ?_
  | with_reducible refine et_not ?_
  | with_reducible refine et_yes ?_
  | with_reducible refine eo_none ?_
  | with_reducible refine eo_some ?_
  | with_reducible refine ev_slS ?_
  | with_reducible refine od_int ?_
  | with_reducible refine od_bl ?_
  | with_reducible refine od_eq_int ?_
  | with_reducible refine od_ne_int ?_
  | with_reducible refine od_eq_bl ?_
  | with_reducible refine od_ne_bl ?_
  | with_reducible refine od_eq_str ?_
  | with_reducible refine od_ne_str ?_
  | with_reducible refine od_leS ?_
  | with_reducible refine ud_isN ?_
  | with_reducible refine ud_notN ?_
  | with_reducible refine do_seq ?_
  | with_reducible refine do_set ?_
  | with_reducible refine do_ret ?_
  | with_reducible refine do_retN ?_
  | with_reducible refine do_if ?_
  | with_reducible refine do_next ?_
  | with_reducible refine tg_name ?_
  | with_reducible refine tgs_nil ?_
  | with_reducible refine tgs_cons ?_)
/-! ### what a reader is asked -/
theorem rdF_inj {c : Addr} {r r' : RdT} (h : D.ins c (rdF r) = .ins c (rdF r')) : r = r' := by
  obtain ⟨m, i, o, ss⟩ := r
  obtain ⟨m', i', o', ss'⟩ := r'
  simp only [rdF, D.ins.injEq, true_and, List.cons.injEq, Prod.mk.injEq, D.str.injEq, D.tup.injEq, and_true] at h
  obtain ⟨rfl, rfl, rfl, h4⟩ := h
  rw [stsD_inj h4]
theorem rd_states {r : RdT} : List.lookup ("_states" : Str) (rdF r) = some (.tup (stsD r.ss)) := rfl
def preR (c : Addr) : List D → Prop := fun ds => ∃ r : RdT, ds = [.ins c (rdF r)] ∧ GoodRd r
def postR (c : Addr) (f : RdT → D) : List D → D → Prop := fun ds d => ∃ r : RdT, ds = [.ins c (rdF r)] ∧ GoodRd r ∧ d = f r
theorem postR_of {c : Addr} {f : RdT → D} {r : RdT} {d : D} (h : postR c f [.ins c (rdF r)] d) : d = f r := by
  obtain ⟨r', e, _, rfl⟩ := h
  rw [rdF_inj (List.cons.inj e).1]
theorem ok_Reader_len {P : Program} {w : World} {K : PySem.W.Frag} {mg : Str → Option Value} {base : Heap} (T : Txt K mg) : FnOk P w K mg base CX0 2 T.f_Reader_len T.fd_Reader_len ["self"] (spD K (preR T.c_Reader) (postR T.c_Reader fun r => .int (r.ss.length : Int))) := by
  refine T.F_Reader_len.ok sc_Reader_len (spD_len fun ds ⟨r, e, _⟩ => by rw [e]; rfl) (fun cdv A outer s H vs Q E hr h => ?_)
  refine ⟨_, (pss_one (ps_ret (pe_callB (callLen K) (by rfl) T.b_len (by decide +kernel) (pa_cons (peFld K (pv 0) rfl) pa_nil)))), ?_⟩
  refine enterD h fun M ds pre _ => ?_
  obtain ⟨r, rfl, g⟩ := pre
  have n6 := g.ss.n6
  exact do_ret (ev_cb (ea_cons (ev_fld T.cf_Reader.cl T.na_Reader_states (ev_var rfl ⟨_, _, rfl, rd_states, ea_nil (cd_lenK (k := r.ss.length) (by simp [lenD, stsD]) (by omega) ⟨r, rfl, g, rfl⟩)⟩))))

end Pf

set_option maxHeartbeats 16000000
namespace Pf
open PySem L2 PfL RZ
local macro_rules | `(tactic| walk_at "ev") => `(tactic| first
  | ((with_reducible refine' ev_var ?h ?_); (case h => rfl))
  | with_reducible refine ev_int ?_
  | with_reducible refine ev_bl ?_
  | with_reducible refine ev_str ?_
  | with_reducible refine ev_non ?_
  | with_reducible refine ev_ty ?_
  | with_reducible refine ev_op ?_
  | with_reducible refine ev_un ?_
  | with_reducible refine ev_chain ?_
  | with_reducible refine ev_if ?_
  | with_reducible refine ev_and ?_
  | with_reducible refine ev_or ?_
  | with_reducible refine ev_not ?_
  | with_reducible refine ev_lst ?_
  | with_reducible refine ev_tup ?_
  | with_reducible refine ea_nil ?_
  | with_reducible refine ea_cons ?_
  | with_reducible refine ev_cb ?_
  | with_reducible refine et_test ?_
  | with_reducible refine et_B ?_
  | with_reducible refine et_and ?_
  | with_reducible refine et_or ?_
  | with_reducible refine et_not ?_
  | with_reducible refine et_yes ?_
  | with_reducible refine eo_none ?_
  | with_reducible refine eo_some ?_
  | with_reducible refine ev_slS ?_
  | with_reducible refine od_int ?_
  | with_reducible refine od_bl ?_
  | with_reducible refine od_eq_int ?_
  | with_reducible refine od_ne_int ?_
  | with_reducible refine od_eq_bl ?_
  | with_reducible refine od_ne_bl ?_
  | with_reducible refine od_eq_str ?_
  | with_reducible refine od_ne_str ?_
  | with_reducible refine od_leS ?_
  | with_reducible refine ud_isN ?_
  | with_reducible refine ud_notN ?_
  | with_reducible refine do_seq ?_
  | with_reducible refine do_set ?_
  | with_reducible refine do_ret ?_
  | with_reducible refine do_retN ?_
  | with_reducible refine do_if ?_
  | with_reducible refine do_next ?_
  | with_reducible refine tg_name ?_
  | with_reducible refine tgs_nil ?_
  | with_reducible refine tgs_cons ?_)
/-! ### readers as the laws draw them -/
def specD (r : RdT) : D := .tup [.str r.m, .str r.i, .str r.o, .lst (stsD r.ss)]
theorem do_cut {F : Fm} {t u : TS} {δ : List SD} {R : PD} (I : List SD → Prop) (h : Do F t δ { R with nx := I }) (k : ∀ δ', I δ' → Do F u δ' R) : Do F (tSeq t u) δ R :=
  do_seq (h.imp (fun δ' i => k δ' i) (fun _ x => x) (fun _ x => x) (fun _ x => x))
theorem goal_one {n : Int} {d : D} (h : d ∈ upto 0 n.toNat ++ [D.non]) : ∃ o, d = optD o ∧ OptIn n o := by
  rcases List.mem_append.mp h with h | h
  · unfold upto at h
    obtain ⟨k, hk, rfl⟩ := List.mem_map.mp h
    have hk := List.mem_range.mp hk
    exact ⟨some (0 + (k : Nat)), rfl, fun i e => by cases e; omega⟩
  · rw [List.mem_singleton.mp h]
    exact ⟨none, rfl, fun i e => by cases e⟩
theorem goal_mem {n : Int} {d : D} (h : d ∈ upto 0 n.toNat ++ upto 0 n.toNat ++ [D.non]) : ∃ o, d = optD o ∧ OptIn n o := by
  refine goal_one ?_
  rcases List.mem_append.mp h with h | h
  · rcases List.mem_append.mp h with h | h
    · exact List.mem_append_left _ h
    · exact List.mem_append_left _ h
  · exact List.mem_append_right _ h
def preState : List D → Prop := fun ds => ∃ P n : Int, ds = [.int P, .int n] ∧ 1 ≤ P ∧ P ≤ 4 ∧ 1 ≤ n ∧ n ≤ 6
def postState : List D → D → Prop := fun ds d => ∃ (P n : Int) (s : StT), ds = [.int P, .int n] ∧ d = stD s ∧ GoodSt n P.toNat s
theorem ok_state {P : Program} {w : World} {K : PySem.W.Frag} {mg : Str → Option Value} {base : Heap} (T : Txt K mg) : FnOk P w K mg base CX0 6 T.f_state T.fd_state ["_law_bag", "_law_parts", "_law_many"] (spB K preState postState) := by
  refine T.F_state.ok sc_state (spB_len fun ds ⟨P, n, e, _⟩ => by rw [e]; rfl) (fun cdv A outer s H vs Q E hr h => ?_)
  refine ⟨_, (pss_cons (ps_set (i := 3) sc_state.nd rfl (Or.inr rfl) (pe_op op_add pe_int (pe_call (ok_of T) (hr.mono (by decide)) rfl T.g_of T.k_of T.bd_of .nil pass0 (pa_cons (pv 0) (pa_cons (pe_lst (pa_cons pe_int (pa_cons pe_int (pa_cons pe_int (pa_cons pe_int (pa_cons pe_int (pa_cons (pe_call (ok_draw T) (hr.mono (by decide)) rfl T.g_draw T.k_draw T.bd_draw .nil pass0 (pa_cons (pv 0) (pa_cons pe_int pa_nil))) pa_nil))))))) pa_nil)))))
    (pss_cons (ps_set (i := 4) sc_state.nd rfl (Or.inl rfl) (pe_callTy (callTuple K) (by rfl) T.b_tuple (by decide +kernel) (pa_cons (pe_lc (own := [("_law_part", 6)]) rfl sc_state.nd (pi_range1 (by rfl) T.b_range (pa_cons (pv 1) pa_nil)) (blkOk_by (N := N_state) (sc := defScope s_state) (by decide +kernel)) (fun _ _ _ _ _ => (pg_name (i := 6) sc_state.nd rfl (Or.inl rfl))) (fun _ _ _ _ _ => pts_nil) (fun _ _ _ _ _ => (pe_call (ok_of T) (hr.mono (by decide)) rfl T.g_of T.k_of T.bd_of .nil pass0 (pa_cons (pv 0) (pa_cons (pe_lst (pa_cons (pv 3) (pa_cons (pv 3) (pa_cons pe_int (pa_cons pe_int (pa_cons (pe_op op_add pe_int (pe_call (ok_draw T) (hr.mono (by decide)) rfl T.g_draw T.k_draw T.bd_draw .nil pass0 (pa_cons (pv 0) (pa_cons pe_int pa_nil)))) pa_nil)))))) pa_nil))))) pa_nil)))
    (pss_cons (ps_set (i := 5) sc_state.nd rfl (Or.inl rfl) (pe_op op_cat (pe_op op_cat (pe_listRg rfl (by rfl) T.b_list (prg_1 (by rfl) T.b_range (pv 2))) (pe_listRg rfl (by rfl) T.b_list (prg_1 (by rfl) T.b_range (pv 2)))) (pe_lst (pa_cons pe_non pa_nil))))
    (pss_one (ps_ret (pe_tup (pa_cons (pv 3) (pa_cons (pv 4) (pa_cons (pe_call (ok_of T) (hr.mono (by decide)) rfl T.g_of T.k_of T.bd_of .nil pass0 (pa_cons (pv 0) (pa_cons (pv 5) pa_nil))) (pa_cons (pe_call (ok_of T) (hr.mono (by decide)) rfl T.g_of T.k_of T.bd_of .nil pass0 (pa_cons (pv 0) (pa_cons (pv 5) pa_nil))) pa_nil)))))))))), ?_⟩
  refine enterB h fun M b c ds pre _ => ?_
  obtain ⟨P, n, rfl, p1, p4, n1, n6⟩ := pre
  refine do_seq (do_set (ev_op (ev_int (ev_ofL rfl rfl ?_))))
  refine ea_cons (ev_lst ?_)
  iterate 5 refine ea_cons (ev_int ?_)
  refine ea_cons (ev_draw rfl rfl (ea_cons (ev_int (ea_nil ⟨9, rfl, by decide, by decide, fun r r0 r1 => ?_⟩))))
  refine ea_nil ⟨by simp, ea_nil ⟨_, rfl, by simp, by simp, fun d hd => ?_⟩⟩
  obtain ⟨z, rfl, z0, z1⟩ : ∃ z : Int, d = .int z ∧ 0 ≤ z ∧ z ≤ 8 := by
    simp only [List.mem_cons, List.not_mem_nil, or_false] at hd
    rcases hd with rfl | rfl | rfl | rfl | rfl | rfl <;> exact ⟨_, rfl, by omega, by omega⟩
  refine od_int ?_
  have s0 : 1 ≤ 1 + z := by omega
  have s1 : 1 + z ≤ 9 := by omega
  generalize 1 + z = sz at s0 s1 ⊢
  clear hd z0 z1 r0 r1
  refine do_letP (fun d => ∃ as : List Int, d = .tup (as.map .int) ∧ as.length = P.toNat ∧ ∀ a ∈ as, 1 ≤ a ∧ a ≤ 9) (ev_cb (ea_cons (EvN.ev ?_))) ?_
  · refine en_lc (js := [6]) (PX := fun l => l = upto 0 P.toNat) (it_range1 (ea_cons (ev_var rfl (ea_nil ⟨P, rfl, by omega, by omega, rfl⟩)))) (fun l e => by rw [e, upto_len]; omega) (by decide) (fun l i acc => ∃ as : List Int, acc = as.map .int ∧ as.length = i ∧ ∀ a ∈ as, 1 ≤ a ∧ a ≤ 9) (fun l e => ⟨[], rfl, rfl, fun a h => by cases h⟩) ?_ ?_
    · rintro l i d acc rfl hi ⟨as, rfl, hl, ha⟩
      refine tg_name (et_yes ⟨fun _ => ?_, fun h => nomatch h⟩)
      refine ev_ofL rfl rfl ?_
      refine ea_cons (ev_lst ?_)
      iterate 2 refine ea_cons (ev_var (d := .int sz) rfl ?_)
      iterate 2 refine ea_cons (ev_int ?_)
      refine ea_cons (ev_op (ev_int (ev_draw rfl rfl (ea_cons (ev_int (ea_nil ⟨9, rfl, by decide, by decide, fun q q0 q1 => od_int ?_⟩))))))
      refine ea_nil ⟨by simp, ea_nil ⟨_, rfl, by simp, by simp, fun d hd => ?_⟩⟩
      obtain ⟨a, rfl, a0, a1⟩ : ∃ a : Int, d = .int a ∧ 1 ≤ a ∧ a ≤ 9 := by
        simp only [List.mem_cons, List.not_mem_nil, or_false] at hd
        rcases hd with rfl | rfl | rfl | rfl | rfl <;> exact ⟨_, rfl, by omega, by omega⟩
      refine ⟨as ++ [a], by simp, by simp [hl], fun x hx => ?_⟩
      rcases List.mem_append.mp hx with hx | hx
      · exact ha x hx
      · rw [List.mem_singleton.mp hx]
        exact ⟨a0, a1⟩
    · rintro l ds rfl ⟨as, rfl, hl, ha⟩
      rw [upto_len] at hl
      exact ea_nil (cd_tupL ⟨as, rfl, hl, ha⟩)
  rintro x ⟨as, rfl, hl, ha⟩
  refine do_let (.lst (upto 0 n.toNat ++ upto 0 n.toNat ++ [.non])) ?_ ?_
  · refine ev_op (ev_op (EvN.ev (en_lstRg1 (ev_var rfl ⟨n, rfl, by omega, by omega, ?_⟩))))
    refine EvN.ev (en_lstRg1 (ev_var rfl ⟨n, rfl, by omega, by omega, od_cat (by rw [upto_len]; omega) ?_⟩))
    exact ev_lst (ea_cons (ev_non (ea_nil ⟨by simp, od_cat (by simp [upto_len]; omega) rfl⟩)))
  refine do_ret (ev_tup (ea_cons (ev_var rfl (ea_cons (ev_var rfl ?_)))))
  refine ea_cons (ev_ofL rfl rfl (ea_cons (ev_var rfl (ea_nil ⟨_, rfl, by simp, by simp [upto_len]; omega, fun d hd => ?_⟩))))
  obtain ⟨o1, rfl, g1⟩ := goal_mem hd
  refine ea_cons (ev_ofL rfl rfl (ea_cons (ev_var rfl (ea_nil ⟨_, rfl, by simp, by simp [upto_len]; omega, fun d hd => ?_⟩))))
  obtain ⟨o2, rfl, g2⟩ := goal_mem hd
  exact ea_nil ⟨by simp, P, n, (sz, as, o1, o2), rfl, rfl, ⟨s0, s1, hl, ha, g1, g2⟩⟩
def preSpec : List D → Prop := fun ds => ∃ P m : Int, ds = [.int P, .int m] ∧ 1 ≤ P ∧ P ≤ 4 ∧ 1 ≤ m ∧ m ≤ 6
def postSpec : List D → D → Prop := fun ds d => ∃ (P m : Int) (r : RdT), ds = [.int P, .int m] ∧ d = specD r ∧ GoodRd r ∧ partsOf r.ss = P.toNat ∧ (r.ss.length : Int) ≤ m
theorem ok_spec {P : Program} {w : World} {K : PySem.W.Frag} {mg : Str → Option Value} {base : Heap} (T : Txt K mg) : FnOk P w K mg base CX0 8 T.f_spec T.fd_spec ["_law_bag", "_law_parts", "_law_most"] (spB K preSpec postSpec) := by
  refine T.F_spec.ok sc_spec (spB_len fun ds ⟨P, n, e, _⟩ => by rw [e]; rfl) (fun cdv A outer s H vs Q E hr h => ?_)
  refine ⟨_, (pss_cons (ps_set (i := 3) sc_spec.nd rfl (Or.inr rfl) (pe_op op_add pe_int (pe_call (ok_draw T) (hr.mono (by decide)) rfl T.g_draw T.k_draw T.bd_draw .nil pass0 (pa_cons (pv 0) (pa_cons (pv 2) pa_nil)))))
    (pss_cons (ps_set (i := 4) sc_spec.nd rfl (Or.inl rfl) (pe_call (ok_of T) (hr.mono (by decide)) rfl T.g_of T.k_of T.bd_of .nil pass0 (pa_cons (pv 0) (pa_cons (pe_lst (pa_cons pe_str (pa_cons pe_str (pa_cons pe_str (pa_cons pe_str (pa_cons pe_str (pa_cons pe_str (pa_cons pe_str pa_nil)))))))) pa_nil))))
    (pss_cons (ps_par (i := 5) (j := 6) rfl sc_spec.nd rfl rfl (by decide) rfl rfl (pa_cons (pe_call (ok_of T) (hr.mono (by decide)) rfl T.g_of T.k_of T.bd_of .nil pass0 (pa_cons (pv 0) (pa_cons (pe_lst (pa_cons pe_str (pa_cons pe_str (pa_cons pe_str pa_nil)))) pa_nil))) (pa_cons (pe_call (ok_of T) (hr.mono (by decide)) rfl T.g_of T.k_of T.bd_of .nil pass0 (pa_cons (pv 0) (pa_cons (pe_lst (pa_cons pe_str (pa_cons pe_str (pa_cons pe_str (pa_cons pe_str pa_nil))))) pa_nil))) pa_nil)) rfl)
    (pss_one (ps_ret (pe_tup (pa_cons (pv 4) (pa_cons (pv 5) (pa_cons (pv 6) (pa_cons (pe_lc (own := [("_law_k", 7)]) rfl sc_spec.nd (pi_range1 (by rfl) T.b_range (pa_cons (pv 3) pa_nil)) (blkOk_by (N := N_spec) (sc := defScope s_spec) (by decide +kernel)) (fun _ _ _ _ _ => (pg_name (i := 7) sc_spec.nd rfl (Or.inl rfl))) (fun _ _ _ _ _ => pts_nil) (fun _ _ _ _ _ => (pe_call (ok_state T) (hr.mono (by decide)) rfl T.g_state T.k_state T.bd_state .nil pass0 (pa_cons (pv 0) (pa_cons (pv 1) (pa_cons (pv 3) pa_nil)))))) pa_nil)))))))))), ?_⟩
  refine enterB h fun M b c ds pre _ => ?_
  obtain ⟨P, m, rfl, p1, p4, m1, m6⟩ := pre
  refine do_seq (do_set (ev_op (ev_int (ev_draw rfl rfl (ea_cons (ev_var rfl (ea_nil ⟨m, rfl, by omega, by omega, fun r r0 r1 => od_int ?_⟩)))))))
  have n1 : 1 ≤ 1 + r := by omega
  have n2 : 1 + r ≤ m := by omega
  generalize 1 + r = n at n1 n2 ⊢
  clear r0 r1
  refine do_letP (fun d => ∃ z : Str, d = .str z ∧ z ∈ marks) (ev_ofL rfl rfl ?_) ?_
  · repeat walk_at "ev"
    refine ⟨by simp, ea_nil ⟨_, rfl, by simp, by simp, fun d hd => ?_⟩⟩
    simp only [List.mem_cons, List.not_mem_nil, or_false] at hd
    rcases hd with rfl | rfl | rfl | rfl | rfl | rfl | rfl <;> exact ⟨_, rfl, by decide⟩
  rintro x ⟨mk, rfl, hm⟩
  refine do_seq (do_par2 (Ev.imp (P := fun d => ∃ z : Str, d = .str z ∧ z ∈ inners) (ev_ofL rfl rfl ?_) ?_))
  · repeat walk_at "ev"
    refine ⟨by simp, ea_nil ⟨_, rfl, by simp, by simp, fun d hd => ?_⟩⟩
    simp only [List.mem_cons, List.not_mem_nil, or_false] at hd
    rcases hd with rfl | rfl | rfl <;> exact ⟨_, rfl, by decide⟩
  rintro x ⟨iz, rfl, hiz⟩
  refine Ev.imp (P := fun d => ∃ z : Str, d = .str z ∧ z ∈ orders) (ev_ofL rfl rfl ?_) ?_
  · repeat walk_at "ev"
    refine ⟨by simp, ea_nil ⟨_, rfl, by simp, by simp, fun d hd => ?_⟩⟩
    simp only [List.mem_cons, List.not_mem_nil, or_false] at hd
    rcases hd with rfl | rfl | rfl | rfl <;> exact ⟨_, rfl, by decide⟩
  rintro x ⟨oz, rfl, hoz⟩
  refine do_ret (ev_tup (ea_cons (ev_var rfl (ea_cons (ev_var rfl (ea_cons (ev_var rfl (ea_cons (EvN.ev ?_)))))))))
  refine en_lc (js := [7]) (PX := fun l => l = upto 0 n.toNat) (it_range1 (ea_cons (ev_var rfl (ea_nil ⟨n, rfl, by omega, by omega, rfl⟩)))) (fun l e => by rw [e, upto_len]; omega) (by decide) (fun l i acc => ∃ ss : List StT, acc = stsD ss ∧ ss.length = i ∧ ∀ s ∈ ss, GoodSt n P.toNat s) (fun l e => ⟨[], rfl, rfl, fun a h => by cases h⟩) ?_ ?_
  · rintro l i d acc rfl hi ⟨ss, rfl, hl, hs⟩
    refine tg_name (et_yes ⟨fun _ => ?_, fun h => nomatch h⟩)
    refine ev_callB rfl rfl (ea_cons (ev_var rfl (ea_cons (ev_var rfl (ea_nil ⟨⟨P, n, rfl, p1, p4, n1, by omega⟩, fun d hd => ?_⟩)))))
    obtain ⟨P', n', s, e, rfl, gs⟩ := hd
    simp only [List.cons.injEq, D.int.injEq, and_true] at e
    obtain ⟨rfl, rfl⟩ := e
    refine ⟨ss ++ [s], by simp [stsD], by simp [hl], fun x hx => ?_⟩
    rcases List.mem_append.mp hx with hx | hx
    · exact hs x hx
    · rw [List.mem_singleton.mp hx]
      exact gs
  · rintro l ds rfl ⟨ss, rfl, hl, hs⟩
    rw [upto_len] at hl
    have gss : GoodSts P.toNat ss := ⟨by omega, by omega, by omega, by omega, fun s hs' => by
      have := hs s hs'
      rw [show ((ss.length : Nat) : Int) = n by omega]
      exact this⟩
    have hp := gss.parts
    exact ea_nil ⟨by simp, P, m, ⟨mk, iz, oz, ss⟩, rfl, rfl, ⟨hm, hiz, hoz, by rw [hp]; exact gss⟩, hp, by show (ss.length : Int) ≤ m; omega⟩
theorem ok_good_spec {P : Program} {w : World} {K : PySem.W.Frag} {mg : Str → Option Value} {base : Heap} (T : Txt K mg) : FnOk P w K mg base CX0 8 T.f_good_spec T.fd_good_spec ["_law_bag", "_law_parts", "_law_most"] (spB K preSpec postSpec) := by
  refine T.F_good_spec.ok sc_good_spec (spB_len fun ds ⟨P, n, e, _⟩ => by rw [e]; rfl) (fun cdv A outer s H vs Q E hr h => ?_)
  refine ⟨_, (pss_cons (ps_par (i := 3) (j := 4) rfl sc_good_spec.nd rfl rfl (by decide) rfl rfl (pa_cons (pe_op op_add pe_int (pe_call (ok_draw T) (hr.mono (by decide)) rfl T.g_draw T.k_draw T.bd_draw .nil pass0 (pa_cons (pv 0) (pa_cons (pv 2) pa_nil)))) (pa_cons (pe_lst (pa_cons (pe_tup (pa_cons pe_str (pa_cons pe_str pa_nil))) (pa_cons (pe_tup (pa_cons pe_str (pa_cons pe_str pa_nil))) (pa_cons (pe_tup (pa_cons pe_str (pa_cons pe_str pa_nil))) pa_nil)))) pa_nil)) rfl)
    (pss_cons (ps_set (i := 5) sc_good_spec.nd rfl (Or.inl rfl) (pe_call (ok_of T) (hr.mono (by decide)) rfl T.g_of T.k_of T.bd_of .nil pass0 (pa_cons (pv 0) (pa_cons (pe_lst (pa_cons pe_str (pa_cons pe_str (pa_cons pe_str (pa_cons pe_str (pa_cons pe_str pa_nil)))))) pa_nil))))
    (pss_cons (ps_asg (pe_ifExp (pt_cmpR (opIn K) (pv 5) (pe_lst (pa_cons pe_str (pa_cons pe_str pa_nil))) (by with_unfolding_all rfl)) (pe_ix (ixL K) (pv 4) pe_int (fun _ _ => rfl)) (pe_call (ok_of T) (hr.mono (by decide)) rfl T.g_of T.k_of T.bd_of .nil pass0 (pa_cons (pv 0) (pa_cons (pv 4) pa_nil)))) (pgTup K (n := 2) rfl (pgs_cons (pg_name (i := 6) sc_good_spec.nd rfl (Or.inl rfl)) (pgs_cons (pg_name (i := 7) sc_good_spec.nd rfl (Or.inl rfl)) pgs_nil))))
    (pss_cons (ps_if (pt_cmpR op_eq (pv 5) pe_str (nomark _)) (pss_one (ps_par (i := 6) (j := 7) rfl sc_good_spec.nd rfl rfl (by decide) rfl rfl (pa_cons (pe_call (ok_of T) (hr.mono (by decide)) rfl T.g_of T.k_of T.bd_of .nil pass0 (pa_cons (pv 0) (pa_cons (pe_lst (pa_cons pe_str (pa_cons pe_str pa_nil))) pa_nil))) (pa_cons (pe_call (ok_of T) (hr.mono (by decide)) rfl T.g_of T.k_of T.bd_of .nil pass0 (pa_cons (pv 0) (pa_cons (pe_lst (pa_cons pe_str (pa_cons pe_str (pa_cons pe_str pa_nil)))) pa_nil))) pa_nil)) rfl)) pss_nil)
    (pss_cons (ps_set (i := 8) sc_good_spec.nd rfl (Or.inl rfl) (pe_lst pa_nil))
    (pss_cons (ps_for PassesOwn.never rfl (pi_range1 (by rfl) T.b_range (pa_cons (pv 3) pa_nil)) (pg_name (i := 9) sc_good_spec.nd rfl (Or.inl rfl))
      (pss_cons (ps_set (i := 10) sc_good_spec.nd rfl (Or.inr rfl) (pe_op op_add pe_int (pe_call (ok_of T) (hr.mono (by decide)) rfl T.g_of T.k_of T.bd_of .nil pass0 (pa_cons (pv 0) (pa_cons (pe_lst (pa_cons pe_int (pa_cons pe_int (pa_cons pe_int (pa_cons (pe_call (ok_draw T) (hr.mono (by decide)) rfl T.g_draw T.k_draw T.bd_draw .nil pass0 (pa_cons (pv 0) (pa_cons pe_int pa_nil))) pa_nil))))) pa_nil)))))
      (pss_cons (ps_set (i := 11) sc_good_spec.nd rfl (Or.inl rfl) (pe_callTy (callTuple K) (by rfl) T.b_tuple (by decide +kernel) (pa_cons (pe_lc (own := [("_law_part", 12)]) rfl sc_good_spec.nd (pi_range1 (by rfl) T.b_range (pa_cons (pv 1) pa_nil)) (blkOk_by (N := N_good_spec) (sc := defScope s_good_spec) (by decide +kernel)) (fun _ _ _ _ _ => (pg_name (i := 12) sc_good_spec.nd rfl (Or.inl rfl))) (fun _ _ _ _ _ => pts_nil) (fun _ _ _ _ _ => (pe_op op_add (pv 10) (pe_call (ok_draw T) (hr.mono (by decide)) rfl T.g_draw T.k_draw T.bd_draw .nil pass0 (pa_cons (pv 0) (pa_cons (pe_op op_sub pe_int (pv 10)) pa_nil)))))) pa_nil)))
      (pss_one (ps_expr (pe_bm PySem.F.plainAttrs_list PySem.F.slot_list_append PySem.F.type_list_append (mt_append) (pv 8) (pa_cons (pe_tup (pa_cons (pv 10) (pa_cons (pv 11) (pa_cons (pe_call (ok_draw T) (hr.mono (by decide)) rfl T.g_draw T.k_draw T.bd_draw .nil pass0 (pa_cons (pv 0) (pa_cons (pv 3) pa_nil))) (pa_cons (pe_call (ok_of T) (hr.mono (by decide)) rfl T.g_of T.k_of T.bd_of .nil pass0 (pa_cons (pv 0) (pa_cons (pe_op op_cat (pe_listRg rfl (by rfl) T.b_list (prg_1 (by rfl) T.b_range (pv 3))) (pe_lst (pa_cons pe_non pa_nil))) pa_nil))) pa_nil))))) pa_nil)))))))
    (pss_one (ps_ret (pe_tup (pa_cons (pv 5) (pa_cons (pv 6) (pa_cons (pv 7) (pa_cons (pv 8) pa_nil))))))))))))), ?_⟩
  refine enterB h fun M b c ds pre _ => ?_
  obtain ⟨P, m, rfl, p1, p4, m1, m6⟩ := pre
  let ways : List D := [.tup [.str "up", .str "number"], .tup [.str "up", .str "number"], .tup [.str "down", .str "back"]]
  refine do_seq (do_par2 (ev_op (ev_int (ev_draw rfl rfl (ea_cons (ev_var rfl (ea_nil ⟨m, rfl, by omega, by omega, fun r r0 r1 => od_int ?_⟩)))))))
  have n1 : 1 ≤ 1 + r := by omega
  have n2 : 1 + r ≤ m := by omega
  generalize 1 + r = n at n1 n2 ⊢
  clear r0 r1
  refine Ev.imp (P := fun d => d = .lst ways) ?_ ?_
  · refine ev_lst (ea_cons (ev_tup (ea_cons (ev_str (ea_cons (ev_str (ea_nil ⟨by simp, ?_⟩)))))))
    refine ea_cons (ev_tup (ea_cons (ev_str (ea_cons (ev_str (ea_nil ⟨by simp, ?_⟩))))))
    refine ea_cons (ev_tup (ea_cons (ev_str (ea_cons (ev_str (ea_nil ⟨by simp, ?_⟩))))))
    exact ea_nil ⟨by simp, rfl⟩
  rintro x rfl
  refine do_letP (fun d => ∃ z : Str, d = .str z ∧ z ∈ marks) (ev_ofL rfl rfl ?_) ?_
  · repeat walk_at "ev"
    refine ⟨by simp, ea_nil ⟨_, rfl, by simp, by simp, fun d hd => ?_⟩⟩
    simp only [List.mem_cons, List.not_mem_nil, or_false] at hd
    rcases hd with rfl | rfl | rfl | rfl | rfl <;> exact ⟨_, rfl, by decide⟩
  rintro x ⟨mk, rfl, hm⟩
  have wayOk : ∀ d ∈ ways, ∃ i o : Str, d = .tup [.str i, .str o] ∧ i ∈ inners ∧ o ∈ orders := fun d hd => by
    simp only [ways, List.mem_cons, List.not_mem_nil, or_false] at hd
    rcases hd with rfl | rfl | rfl <;> exact ⟨_, _, rfl, by decide, by decide⟩
  refine do_seq (do_asg (js := [6, 7]) (Ev.imp (P := fun d => ∃ i o : Str, d = .tup [.str i, .str o] ∧ i ∈ inners ∧ o ∈ orders) (ev_if (et_test (ev_op (ev_var rfl (ev_lst (ea_cons (ev_str (ea_cons (ev_str (ea_nil ⟨by simp, od_inStrs (zs := ["row", "each"]) (neg := false) (t := false) ⟨_, rfl, fun _ => ?_, fun _ => ?_⟩⟩)))))))))) ?_))
  · exact ev_op (ev_var rfl (ev_int (od_ixL (d := .tup [.str "up", .str "number"]) rfl ⟨_, _, rfl, by decide, by decide⟩)))
  · exact ev_ofL rfl rfl (ea_cons (ev_var rfl (ea_nil ⟨ways, rfl, by simp [ways], by simp [ways], wayOk⟩)))
  rintro x ⟨iz, oz, rfl, hiz, hoz⟩
  refine tg_tup rfl (tgs_cons (js := [6]) (ks := [7]) (tg_name (tgs_cons (js := [7]) (ks := []) (tg_name (tgs_nil ?_)))))
  refine do_cut (fun δ' => ∃ iz oz : Str, iz ∈ inners ∧ oz ∈ orders ∧ δ' = [.bag, .dat (.int P), .dat (.int m), .dat (.int n), .dat (.lst ways), .dat (.str mk), .dat (.str iz), .dat (.str oz), .un, .un, .un, .un, .un]) (do_if (et_test (ev_op (ev_var rfl (ev_str (od_eq_str ⟨_, rfl, fun _ => ?_, fun _ => do_next ⟨iz, oz, hiz, hoz, rfl⟩⟩)))))) ?_
  · refine do_par2 (Ev.imp (P := fun d => ∃ z : Str, d = .str z ∧ z ∈ inners) (ev_ofL rfl rfl ?_) ?_)
    · repeat walk_at "ev"
      refine ⟨by simp, ea_nil ⟨_, rfl, by simp, by simp, fun d hd => ?_⟩⟩
      simp only [List.mem_cons, List.not_mem_nil, or_false] at hd
      rcases hd with rfl | rfl <;> exact ⟨_, rfl, by decide⟩
    rintro x ⟨iz2, rfl, hiz2⟩
    refine Ev.imp (P := fun d => ∃ z : Str, d = .str z ∧ z ∈ orders) (ev_ofL rfl rfl ?_) ?_
    · repeat walk_at "ev"
      refine ⟨by simp, ea_nil ⟨_, rfl, by simp, by simp, fun d hd => ?_⟩⟩
      simp only [List.mem_cons, List.not_mem_nil, or_false] at hd
      rcases hd with rfl | rfl | rfl <;> exact ⟨_, rfl, by decide⟩
    rintro x ⟨oz2, rfl, hoz2⟩
    exact ⟨iz2, oz2, hiz2, hoz2, rfl⟩
  clear hiz hoz iz oz
  rintro δ' ⟨iz, oz, hiz, hoz, rfl⟩
  refine do_seq (do_own (en_lst (ea_nil ⟨by decide, fun p => ?_⟩)))
  refine do_seq ?_
  refine do_for (js := [9]) (PX := fun l => l = upto 0 n.toNat) (it_range1 (ea_cons (ev_var rfl (ea_nil ⟨n, rfl, by omega, by omega, rfl⟩)))) (fun l i δ => ∃ ss z1 z2 z3 z4, δ = [.bag, .dat (.int P), .dat (.int m), .dat (.int n), .dat (.lst ways), .dat (.str mk), .dat (.str iz), .dat (.str oz), .own p (.lst (stsD ss)), z1, z2, z3, z4] ∧ ss.length = i ∧ ∀ s ∈ ss, GoodSt n P.toNat s) (fun l e => ⟨[], _, _, _, _, rfl, rfl, fun s h => by cases h⟩) ?_ ?_
  · rintro l i d δ' rfl hi ⟨ss, z1, z2, z3, z4, rfl, hl, hs⟩
    obtain ⟨hlt, rfl⟩ := upto_get hi
    refine tg_name ?_
    refine do_seq (do_set (ev_op (ev_int (ev_ofL rfl rfl ?_))))
    refine ea_cons (ev_lst ?_)
    iterate 3 refine ea_cons (ev_int ?_)
    refine ea_cons (ev_draw rfl rfl (ea_cons (ev_int (ea_nil ⟨9, rfl, by decide, by decide, fun r r0 r1 => ?_⟩))))
    refine ea_nil ⟨by simp, ea_nil ⟨_, rfl, by simp, by simp, fun d hd => ?_⟩⟩
    obtain ⟨z, rfl, z0, z1⟩ : ∃ z : Int, d = .int z ∧ 0 ≤ z ∧ z ≤ 8 := by
      simp only [List.mem_cons, List.not_mem_nil, or_false] at hd
      rcases hd with rfl | rfl | rfl | rfl <;> exact ⟨_, rfl, by omega, by omega⟩
    refine od_int ?_
    have s0 : 1 ≤ 1 + z := by omega
    have s1 : 1 + z ≤ 9 := by omega
    generalize 1 + z = sz at s0 s1 ⊢
    clear hd z0 z1 r0 r1
    refine do_letP (fun d => ∃ as : List Int, d = .tup (as.map .int) ∧ as.length = P.toNat ∧ ∀ a ∈ as, 1 ≤ a ∧ a ≤ 9) (ev_cb (ea_cons (EvN.ev ?_))) ?_
    · refine en_lc (js := [12]) (PX := fun l => l = upto 0 P.toNat) (it_range1 (ea_cons (ev_var rfl (ea_nil ⟨P, rfl, by omega, by omega, rfl⟩)))) (fun l e => by rw [e, upto_len]; omega) (by decide) (fun l i acc => ∃ as : List Int, acc = as.map .int ∧ as.length = i ∧ ∀ a ∈ as, 1 ≤ a ∧ a ≤ 9) (fun l e => ⟨[], rfl, rfl, fun a h => by cases h⟩) ?_ ?_
      · rintro l i d acc rfl hi ⟨as, rfl, hl, ha⟩
        refine tg_name (et_yes ⟨fun _ => ?_, fun h => nomatch h⟩)
        refine ev_op (ev_var (d := .int sz) rfl (ev_draw rfl rfl (ea_cons (ev_op (ev_int (ev_var (d := .int sz) rfl (od_int (ea_nil ⟨10 - sz, rfl, by omega, by omega, fun q q0 q1 => od_int ?_⟩))))))))
        refine ⟨as ++ [sz + q], by simp, by simp [hl], fun x hx => ?_⟩
        rcases List.mem_append.mp hx with hx | hx
        · exact ha x hx
        · rw [List.mem_singleton.mp hx]
          omega
      · rintro l ds rfl ⟨as, rfl, hl, ha⟩
        rw [upto_len] at hl
        exact ea_nil (cd_tupL ⟨as, rfl, hl, ha⟩)
    rintro x ⟨as, rfl, hla, ha⟩
    refine do_append (i := 8) (p := p) (ds := stsD ss) rfl (by rw [stsD_len]; omega) (ev_tup (ea_cons (ev_var (d := .int sz) rfl (ea_cons (ev_var (d := .tup (as.map .int)) rfl ?_)))))
    refine ea_cons (ev_draw rfl rfl (ea_cons (ev_var (d := .int n) rfl (ea_nil ⟨n, rfl, by omega, by omega, fun q q0 q1 => ?_⟩))))
    refine ea_cons (ev_ofL rfl rfl (ea_cons (ev_op (EvN.ev (en_lstRg1 (ev_var (d := .int n) rfl ⟨n, rfl, by omega, by omega, ?_⟩)))) ))
    refine ev_lst (ea_cons (ev_non (ea_nil ⟨by simp, od_cat (by simp [upto_len]; omega) (ea_nil ⟨_, rfl, by simp, by simp [upto_len]; omega, fun d hd => ?_⟩)⟩)))
    obtain ⟨o2, rfl, g2⟩ := goal_one hd
    have e : stsD ss ++ [D.tup [.int sz, .tup (as.map .int), .int q, optD o2]] = stsD (ss ++ [(sz, as, some q, o2)]) := by simp [stsD, stD, optD]
    refine ea_nil ⟨by simp, ss ++ [(sz, as, some q, o2)], _, _, _, _, by rw [e]; rfl, by simp [hl], fun x hx => ?_⟩
    rcases List.mem_append.mp hx with hx | hx
    · exact hs x hx
    · rw [List.mem_singleton.mp hx]
      exact ⟨s0, s1, hla, ha, fun i e => by cases e; omega, g2⟩
  · rintro l δ' rfl ⟨ss, z1, z2, z3, z4, rfl, hl, hs⟩
    rw [upto_len] at hl
    have gss : GoodSts P.toNat ss := ⟨by omega, by omega, by omega, by omega, fun s hs' => by
      have := hs s hs'
      rw [show ((ss.length : Nat) : Int) = n by omega]
      exact this⟩
    have hp := gss.parts
    refine do_freeze (i := 8) rfl (do_ret (ev_tup ?_))
    iterate 4 refine ea_cons (ev_var rfl ?_)
    exact ea_nil ⟨by simp, P, m, ⟨mk, iz, oz, ss⟩, rfl, rfl, ⟨hm, hiz, hoz, by rw [hp]; exact gss⟩, hp, by show (ss.length : Int) ≤ m; omega⟩
theorem ok_any_spec {P : Program} {w : World} {K : PySem.W.Frag} {mg : Str → Option Value} {base : Heap} (T : Txt K mg) : FnOk P w K mg base CX0 10 T.f_any_spec T.fd_any_spec ["_law_bag", "_law_parts", "_law_most"] (spB K preSpec postSpec) := by
  refine T.F_any_spec.ok sc_any_spec (spB_len fun ds ⟨P, n, e, _⟩ => by rw [e]; rfl) (fun cdv A outer s H vs Q E hr h => ?_)
  refine ⟨_, (pss_one (ps_ret (pe_ifExp (pt_cmpR op_eq (pe_call (ok_draw T) (hr.mono (by decide)) rfl T.g_draw T.k_draw T.bd_draw .nil pass0 (pa_cons (pv 0) (pa_cons pe_int pa_nil))) pe_int (nomark _)) (pe_call (ok_good_spec T) (hr.mono (by decide)) rfl T.g_good_spec T.k_good_spec T.bd_good_spec .nil pass0 (pa_cons (pv 0) (pa_cons (pv 1) (pa_cons (pv 2) pa_nil)))) (pe_call (ok_spec T) (hr.mono (by decide)) rfl T.g_spec T.k_spec T.bd_spec .nil pass0 (pa_cons (pv 0) (pa_cons (pv 1) (pa_cons (pv 2) pa_nil))))))), ?_⟩
  refine enterB h fun M b c ds pre _ => ?_
  obtain ⟨P, m, rfl, p1, p4, m1, m6⟩ := pre
  refine do_ret (ev_if (et_test (ev_op (ev_draw rfl rfl (ea_cons (ev_int (ea_nil ⟨3, rfl, by decide, by decide, fun q _ _ => ev_int (od_eq_int ⟨_, rfl, fun _ => ?_, fun _ => ?_⟩)⟩)))))))
  all_goals exact ev_callB rfl rfl (ea_cons (ev_var rfl (ea_cons (ev_var rfl (ea_nil ⟨⟨P, m, rfl, p1, p4, m1, m6⟩, fun d hd => hd⟩)))))
theorem specD_inj {r r' : RdT} (h : specD r = specD r') : r = r' := by
  obtain ⟨m, i, o, ss⟩ := r
  obtain ⟨m', i', o', ss'⟩ := r'
  simp only [specD, D.tup.injEq, List.cons.injEq, D.str.injEq, D.lst.injEq, and_true] at h
  obtain ⟨rfl, rfl, rfl, h4⟩ := h
  rw [stsD_inj h4]

end Pf

set_option maxHeartbeats 16000000
namespace Pf
open PySem L2 PfL RZ
local macro_rules | `(tactic| walk_at "ev") => `(tactic| first
  | ((with_reducible refine' ev_var ?h ?_); (case h => rfl))
  | with_reducible refine ev_int ?_
  | with_reducible refine ev_bl ?_
  | with_reducible refine ev_str ?_
  | with_reducible refine ev_non ?_
  | with_reducible refine ev_ty ?_
  | with_reducible refine ev_op ?_
  | with_reducible refine ev_un ?_
  | with_reducible refine ev_chain ?_
  | with_reducible refine ev_if ?_
  | with_reducible refine ev_and ?_
  | with_reducible refine ev_or ?_
  | with_reducible refine ev_not ?_
  | with_reducible refine ev_lst ?_
  | with_reducible refine ev_tup ?_
  | with_reducible refine ea_nil ?_
  | with_reducible refine ea_cons ?_
  | with_reducible refine ev_cb ?_
  | with_reducible refine et_test ?_
  | with_reducible refine et_B ?_
  | with_reducible refine et_and ?_
  | with_reducible refine et_or ?_
  | with_reducible refine et_not ?_
  | with_reducible refine et_yes ?_
  | with_reducible refine eo_none ?_
  | with_reducible refine eo_some ?_
  | with_reducible refine ev_slS ?_
  | with_reducible refine od_int ?_
  | with_reducible refine od_bl ?_
  | with_reducible refine od_eq_int ?_
  | with_reducible refine od_ne_int ?_
  | with_reducible refine od_eq_bl ?_
  | with_reducible refine od_ne_bl ?_
  | with_reducible refine od_eq_str ?_
  | with_reducible refine od_ne_str ?_
  | with_reducible refine od_leS ?_
  | with_reducible refine ud_isN ?_
  | with_reducible refine ud_notN ?_
  | with_reducible refine do_seq ?_
  | with_reducible refine do_set ?_
  | with_reducible refine do_ret ?_
  | with_reducible refine do_retN ?_
  | with_reducible refine do_if ?_
  | with_reducible refine do_next ?_
  | with_reducible refine tg_name ?_
  | with_reducible refine tgs_nil ?_
  | with_reducible refine tgs_cons ?_)
/-! ### numbers as words -/
def numS (i : Int) : Str := Str.ofString (toString i)
theorem numS_nat (n : Nat) : (numS (n : Int)).cps.toList = TL.numL n := TL.tl_num n
theorem numS_neg {n : Nat} (h : 1 ≤ n) : (numS (-(n : Int))).cps.toList = 45 :: TL.numL n := by
  obtain ⟨m, rfl⟩ : ∃ m, n = m + 1 := ⟨n - 1, by omega⟩
  have e : (toString (-((m + 1 : Nat) : Int)) : String) = "-" ++ toString (m + 1) := rfl
  have h1 : (numS (-((m + 1 : Nat) : Int))).cps.toList = (toString (-((m + 1 : Nat) : Int))).toList.map Char.toNat := TL.tl_ofString _
  have h2 : TL.numL (m + 1) = (toString ((m + 1 : Nat) : Int)).toList.map Char.toNat := by
    rw [← TL.tl_num, TL.tl_ofString]
  rw [h1, e, h2, String.toList_append, List.map_append]
  rfl
theorem numL_head : ∀ {n : Nat}, 1 ≤ n → (TL.numL n)[0]? ≠ some 48 := fun {n} => by
  induction n using Nat.strongRecOn with
  | _ n ih =>
    intro h
    by_cases h2 : n < 10
    · rw [TL.numL_lt h2]
      simp
      omega
    · rw [TL.numL_step (by omega), List.getElem?_append_left (List.length_pos_iff.mpr (TL.numL_ne _))]
      exact ih (n / 10) (by omega) (by omega)
theorem numL_zero : TL.numL 0 = [48] := TL.numL_lt (by decide)
theorem numL_pos (n : Nat) : 1 ≤ (TL.numL n).length := List.length_pos_iff.mpr (TL.numL_ne n)
theorem numL_len20 {n : Nat} (h : n < 10 ^ 20) : (TL.numL n).length ≤ 20 := TL.numL_len (by decide) h
theorem numS_inj {i j : Int} (h : numS i = numS j) : i = j := by
  have e : (numS i).cps.toList = (numS j).cps.toList := by rw [h]
  have head : ∀ n m : Nat, TL.numL n ≠ 45 :: TL.numL m := fun n m e => by
    have := TL.numL_digits n 45 (by rw [e]; simp)
    omega
  rcases Int.le_total 0 i with hi | hi
  · obtain ⟨n, rfl⟩ := Int.eq_ofNat_of_zero_le hi
    rcases Int.lt_or_le j 0 with hj | hj
    · obtain ⟨m, rfl, hm⟩ : ∃ m : Nat, j = -(m : Int) ∧ 1 ≤ m := ⟨j.natAbs, by omega, by omega⟩
      rw [numS_nat, numS_neg hm] at e
      exact absurd e (head _ _)
    · obtain ⟨m, rfl⟩ := Int.eq_ofNat_of_zero_le hj
      rw [numS_nat, numS_nat] at e
      rw [TL.numL_inj e]
  · by_cases h0 : i = 0
    · subst h0
      rcases Int.lt_or_le j 0 with hj | hj
      · obtain ⟨m, rfl, hm⟩ : ∃ m : Nat, j = -(m : Int) ∧ 1 ≤ m := ⟨j.natAbs, by omega, by omega⟩
        have e : (numS ((0 : Nat) : Int)).cps.toList = (numS (-(m : Int))).cps.toList := e
        rw [numS_nat, numS_neg hm] at e
        exact absurd e (head _ _)
      · obtain ⟨m, rfl⟩ := Int.eq_ofNat_of_zero_le hj
        have e : (numS ((0 : Nat) : Int)).cps.toList = (numS ((m : Nat) : Int)).cps.toList := e
        rw [numS_nat, numS_nat] at e
        rw [← TL.numL_inj e]
        rfl
    · obtain ⟨n, rfl, hn⟩ : ∃ n : Nat, i = -(n : Int) ∧ 1 ≤ n := ⟨i.natAbs, by omega, by omega⟩
      rcases Int.lt_or_le j 0 with hj | hj
      · obtain ⟨m, rfl, hm⟩ : ∃ m : Nat, j = -(m : Int) ∧ 1 ≤ m := ⟨j.natAbs, by omega, by omega⟩
        rw [numS_neg hn, numS_neg hm] at e
        rw [TL.numL_inj (List.cons.inj e).2]
      · obtain ⟨m, rfl⟩ := Int.eq_ofNat_of_zero_le hj
        rw [numS_neg hn, numS_nat] at e
        exact absurd e.symm (head _ _)
/-- the digits of a number's word, behind its sign -/
theorem numS_form (i : Int) (hi : i.natAbs < 10 ^ 20) : ∃ n : Nat, n < 10 ^ 20 ∧ ((i = (n : Int) ∧ (numS i).cps.toList = TL.numL n) ∨ (i = -(n : Int) ∧ 1 ≤ n ∧ (numS i).cps.toList = 45 :: TL.numL n)) := by
  rcases Int.lt_or_le i 0 with h | h
  · refine ⟨i.natAbs, hi, .inr ⟨by omega, by omega, ?_⟩⟩
    have := numS_neg (n := i.natAbs) (by omega)
    rwa [show -((i.natAbs : Nat) : Int) = i by omega] at this
  · obtain ⟨n, rfl⟩ := Int.eq_ofNat_of_zero_le h
    exact ⟨n, by omega, .inl ⟨rfl, numS_nat n⟩⟩
theorem numS_len {i : Int} (hi : i.natAbs < 10 ^ 20) : 1 ≤ (numS i).length ∧ (numS i).length ≤ 21 := by
  obtain ⟨n, hn, ⟨_, e⟩ | ⟨_, _, e⟩⟩ := numS_form i hi
  all_goals
    have h1 := numL_pos n
    have h2 := numL_len20 hn
    rw [← str_len, e]
  · omega
  · simp only [List.length_cons]
    omega
/-- no sign but digits and the minus -/
theorem numS_free {i : Int} (hi : i.natAbs < 10 ^ 20) {s : Nat} (h : s < 45 ∨ 57 < s) : s ∉ (numS i).cps.toList := by
  obtain ⟨n, hn, ⟨_, e⟩ | ⟨_, _, e⟩⟩ := numS_form i hi
  · rw [e]
    exact TL.numL_free (by omega)
  · rw [e, List.mem_cons]
    rintro (z | z)
    · omega
    · exact TL.numL_free (by omega) z
theorem intT_numS {i : Int} (hi : i.natAbs < 10 ^ 20) : PySem.intText? (numS i) = some i := by
  obtain ⟨n, hn, ⟨e, h⟩ | ⟨e, h1, h⟩⟩ := numS_form i hi
  · subst e
    exact TL.int_num (by have := numL_len20 hn; omega)
  · have := PySem.intText_neg h (TL.numL_digits n) (TL.numL_ne n) (by have := (numS_len hi).2; omega)
    rw [this, TL.numL_val, e]
theorem starts_one (x : Str) (c : Nat) : Txt.startswith x ⟨#[c]⟩ = decide (x.cps.toList[0]? = some c) := by
  have h := StrLaws.subAt_one x c 0
  unfold Txt.startswith
  by_cases hc : x.cps.toList[0]? = some c
  · obtain ⟨h1, h2⟩ := h.mpr hc
    rw [decide_eq_true hc, h2, Bool.and_true]
    exact decide_eq_true h1
  · rw [decide_eq_false hc]
    cases e : (decide (0 + (⟨#[c]⟩ : Str).length ≤ x.length) && Builtin.Str.subAt x ⟨#[c]⟩ 0) with
    | false => rfl
    | true =>
      rw [Bool.and_eq_true, decide_eq_true_eq] at e
      exact absurd (h.mp e) hc
theorem minus_is : (Str.ofString "-") = ⟨#[45]⟩ := by decide +kernel
theorem nought_is : (Str.ofString "0") = ⟨#[48]⟩ := by decide +kernel
def dig (c : Nat) : Bool := decide (48 ≤ c) && decide (c ≤ 57)
theorem lt_one1 {a b : Nat} : ([a] : List Nat) < [b] ↔ a < b := by
  constructor
  · intro h
    cases h with
    | rel h => exact h
    | cons h => cases h
  · intro h
    exact .rel h
theorem le_0 {c : Nat} : (!decide (({ cps := #[c] } : Str).cps.toList < (Str.ofString "0").cps.toList)) = decide (48 ≤ c) := by
  have e : (Str.ofString "0").cps.toList = [48] := by decide +kernel
  rw [e]
  show (!decide ([c] < [48])) = _
  rw [decide_eq_decide.mpr (lt_one1 (a := c) (b := 48)), ← decide_not]
  exact decide_eq_decide.mpr (by omega)
theorem le_9 {c : Nat} : (!decide ((Str.ofString "9").cps.toList < ({ cps := #[c] } : Str).cps.toList)) = decide (c ≤ 57) := by
  have e : (Str.ofString "9").cps.toList = [57] := by decide +kernel
  rw [e]
  show (!decide ([57] < [c])) = _
  rw [decide_eq_decide.mpr (lt_one1 (a := 57) (b := c)), ← decide_not]
  exact decide_eq_decide.mpr (by omega)
def noD : Option Int → D
  | none => .non
  | some i => .int i
def digsL (w : Str) : List Nat := if w.cps.toList[0]? = some 45 then w.cps.toList.drop 1 else w.cps.toList
def okNum (w : Str) : Bool := decide (1 ≤ (digsL w).length) && decide ((digsL w).length ≤ 30) && (digsL w).all dig && (!decide ((digsL w)[0]? = some 48) || decide (w = Str.ofString "0"))
def valOf (w : Str) : Int := if w.cps.toList[0]? = some 45 then -((NumText.digitsVal (digsL w) : Nat) : Int) else ((NumText.digitsVal (digsL w) : Nat) : Int)
/-- the number that a word is -/
def numOf (w : Str) : Option Int := if okNum w then some (valOf w) else none
theorem intT_ok {w : Str} (h1 : 1 ≤ (digsL w).length) (h2 : (digsL w).length ≤ 30) (h3 : (digsL w).all dig = true) : PySem.intText? w = some (valOf w) ∧ w.length ≤ 31 := by
  have ad : NumText.AllDigits (digsL w) := fun c hc => by
    have := List.all_eq_true.mp h3 c hc
    unfold dig at this
    simpa using this
  have ne : digsL w ≠ [] := List.length_pos_iff.mp h1
  have lw : w.length ≤ 31 := by
    rw [← str_len]
    unfold digsL at h2
    split at h2
    · rw [List.length_drop] at h2
      omega
    · omega
  refine ⟨?_, lw⟩
  unfold valOf
  by_cases hm : w.cps.toList[0]? = some 45
  · rw [if_pos hm]
    have e : w.cps.toList = 45 :: digsL w := by
      unfold digsL
      rw [if_pos hm]
      cases hl : w.cps.toList with
      | nil => rw [hl] at hm; simp at hm
      | cons a l =>
        rw [hl] at hm
        simp at hm
        rw [hm]
        rfl
    exact PySem.intText_neg e ad ne (by omega)
  · rw [if_neg hm]
    have e : w.cps.toList = digsL w := by
      unfold digsL
      rw [if_neg hm]
    have := PySem.intText_digits (x := w) (by rw [e]; exact ad) (by rw [e]; exact ne) (by omega)
    rw [e] at this
    exact this
theorem numOf_none {w : Str} (h : okNum w = false) : numOf w = none := by
  unfold numOf
  rw [h]
  rfl
theorem numOf_some {w : Str} (h : okNum w = true) : numOf w = some (valOf w) := by
  unfold numOf
  rw [h]
  rfl
theorem okNum_numS {i : Int} (hi : i.natAbs < 10 ^ 20) : okNum (numS i) = true := by
  obtain ⟨n, hn, hf⟩ := numS_form i hi
  have h1 := numL_pos n
  have h2 := numL_len20 hn
  have e : digsL (numS i) = TL.numL n := by
    unfold digsL
    rcases hf with ⟨_, e⟩ | ⟨_, _, e⟩
    · rw [e, if_neg]
      intro hm
      have := TL.numL_digits n 45 (List.mem_of_getElem? hm)
      omega
    · rw [e, if_pos (by simp)]
      rfl
  unfold okNum
  rw [e]
  have a1 : decide (1 ≤ (TL.numL n).length) = true := decide_eq_true h1
  have a2 : decide ((TL.numL n).length ≤ 30) = true := decide_eq_true (by omega)
  have a3 : (TL.numL n).all dig = true := by
    rw [List.all_eq_true]
    intro c hc
    have := TL.numL_digits n c hc
    simp only [dig, Bool.and_eq_true, decide_eq_true_eq]
    exact this
  rw [a1, a2, a3]
  by_cases h : 1 ≤ n
  · rw [decide_eq_false (numL_head h)]
    rfl
  · have n0 : n = 0 := by omega
    have e : numS i = Str.ofString "0" := by
      rcases hf with ⟨_, e⟩ | ⟨_, h, _⟩
      · refine TL.ext_tl ?_
        show (numS i).cps.toList = _
        rw [e, n0, numL_zero]
        decide +kernel
      · omega
    rw [decide_eq_true e]
    simp
theorem numOf_numS {i : Int} (hi : i.natAbs < 10 ^ 20) : numOf (numS i) = some i := by
  have h := okNum_numS hi
  rw [numOf_some h]
  unfold okNum at h
  simp only [Bool.and_eq_true, decide_eq_true_eq] at h
  have := (intT_ok h.1.1.1 h.1.1.2 h.1.2).1
  rw [intT_numS hi] at this
  exact this.symm
def preNo : List D → Prop := fun ds => ∃ w : Str, ds = [.str w] ∧ w.length ≤ 1000
def poNo : List D → D → Prop := fun ds d => ∃ w : Str, ds = [.str w] ∧ d = noD (numOf w)
theorem ok_number_of {P : Program} {w : World} {K : PySem.W.Frag} {mg : Str → Option Value} {base : Heap} (T : Txt K mg) : FnOk P w K mg base CX0 4 T.f_number_of T.fd_number_of ["word"] (spD K preNo poNo) := by
  refine T.F_number_of.ok sc_number_of (spD_len fun ds ⟨i, e, _⟩ => by rw [e]; rfl) (fun cdv A outer s H vs Q E hr h => ?_)
  refine ⟨_, (pss_cons (ps_set (i := 1) sc_number_of.nd rfl (Or.inl rfl) (pe_ifExp (pt_val (pe_bm PySem.F.plainAttrs_str PySem.F.slot_str_startswith PySem.F.type_str_startswith mtStarts (pv 0) (pa_cons pe_str pa_nil))) (pe_slice sl_str (pv 0) (po_some pe_int) po_none) (pv 0)))
    (pss_cons (ps_if (PW.pt (pw_or (pt_not (pt_chain op_le op_le pe_int (pe_callB (callLen K) (by rfl) T.b_len (by decide +kernel) (pa_cons (pv 1) pa_nil)) (pe_glob (v := .int 30) rfl T.g__MOST_DIGITS ⟨_, rfl⟩))) (pw_or1 (pt_not (pt_val (pe_callB (callAll K) (by rfl) T.b_all (by decide +kernel) (pa_cons (pe_lc (own := [("sign", 2)]) rfl sc_number_of.nd (pi_str (pv 1)) (blkOk_by (N := N_number_of) (sc := defScope s_number_of) (by decide +kernel)) (fun _ _ _ _ _ => (pg_name (i := 2) sc_number_of.nd rfl (Or.inl rfl))) (fun _ _ _ _ _ => pts_nil) (fun _ _ _ _ _ => (pe_chain op_le_str op_le_str pe_str (pv 2) pe_str))) pa_nil))))))) (pss_one (ps_ret pe_non)) pss_nil)
    (pss_cons (ps_if (PW.pt (pw_and (pt_val (pe_bm PySem.F.plainAttrs_str PySem.F.slot_str_startswith PySem.F.type_str_startswith mtStarts (pv 1) (pa_cons pe_str pa_nil))) (pw_and1 (pt_cmpR op_ne (pv 0) pe_str (nomark _))))) (pss_one (ps_ret pe_non)) pss_nil)
    (pss_one (ps_ret (pe_callTy callIntT (by rfl) T.b_int (by decide +kernel) (pa_cons (pv 0) pa_nil))))))), ?_⟩
  refine enterD h fun M ds pre _ => ?_
  obtain ⟨w, rfl, hw⟩ := pre
  refine do_letP (fun d => ∃ z : Str, d = .str z ∧ z.cps.toList = digsL w) (ev_if (et_test (ev_starts (ev_var rfl ⟨_, rfl, ev_str ⟨_, rfl, _, rfl, fun hb => ?_, fun hb => ?_⟩⟩)))) fun dd hd => ?_
  · rw [minus_is, starts_one] at hb
    have hb := of_decide_eq_true hb
    have h1 : 1 ≤ w.cps.toList.length := by
      have := (List.getElem?_eq_some_iff.mp hb).1
      omega
    rw [str_len] at h1
    refine ev_slS (ev_var rfl (eo_some (ev_int ⟨1, rfl, eo_none ⟨_, rfl, by omega, _, rfl, ?_⟩⟩)))
    unfold cutS digsL
    rw [HT.sIx_none, show (1 : Int) = ((1 : Nat) : Int) from rfl, HT.sIx_nat, Nat.min_eq_left (by omega), if_pos hb]
    have : (List.drop 1 w.cps.toList).length = w.length - 1 := by rw [List.length_drop, str_len]
    rw [← this, List.take_length]
  · rw [minus_is, starts_one] at hb
    have hb := of_decide_eq_false hb
    refine ev_var rfl ⟨_, rfl, ?_⟩
    unfold digsL
    rw [if_neg hb]
  obtain ⟨z, rfl, hz⟩ := hd
  have zl : z.length = (digsL w).length := by rw [← str_len, hz]
  have zw : z.length ≤ 1000 := by
    rw [zl]
    unfold digsL
    split
    · rw [List.length_drop, str_len]
      omega
    · rw [str_len]
      exact hw
  have none_ : okNum w = false → poNo [.str w] .non := fun h => ⟨w, rfl, by rw [numOf_none h]; rfl⟩
  refine do_seq (do_if (et_or (et_not (et_B (ev_chain (ev_int (ev_cb (ea_cons (ev_var rfl (ea_nil (cd_lenK (k := z.length) rfl (by omega) ?_)))))))))))
  refine od_bl ⟨_, rfl, fun hb => ?_, fun hb => ?_⟩
  rotate_left
  · refine ⟨false, rfl, (fun h => nomatch h), fun _ => ⟨fun _ => do_ret (ev_non (none_ ?_)), fun h => nomatch h⟩⟩
    unfold okNum
    rw [← zl, decide_eq_false (by have := of_decide_eq_false hb; omega)]
    simp
  have g1 : 1 ≤ z.length := by
    have := of_decide_eq_true hb
    omega
  refine ev_int (od_bl ⟨_, rfl, ?_⟩)
  cases hb2 : decide ((z.length : Int) ≤ 30)
  · refine ⟨(fun h => nomatch h), fun _ => ⟨fun _ => do_ret (ev_non (none_ ?_)), fun h => nomatch h⟩⟩
    unfold okNum
    rw [← zl, decide_eq_false (p := z.length ≤ 30) (by have := of_decide_eq_false hb2; omega)]
    simp
  have g2 : z.length ≤ 30 := by
    have := of_decide_eq_true hb2
    omega
  refine ⟨fun _ => ?_, fun h => nomatch h⟩
  refine et_not (et_test (ev_cb (ea_cons (EvN.ev ?_))))
  refine en_lc (js := [2]) (PX := fun l => l = signs z) (it_str (ev_var (d := .str z) rfl ⟨z, rfl, rfl⟩)) (fun l e => by rw [e]; unfold signs; rw [List.length_map, str_len]; omega) (by decide) (fun l i acc => acc = blD ((z.cps.toList.take i).map dig)) (fun l e => rfl) ?_ ?_
  · rintro l i d acc rfl hk rfl
    unfold signs at hk
    rw [List.getElem?_map] at hk
    cases e : z.cps.toList[i]? with
    | none => rw [e] at hk; cases hk
    | some c =>
      rw [e] at hk
      obtain rfl : D.str ⟨#[c]⟩ = d := Option.some.inj hk
      have fin : ∀ b, b = dig c → blD ((z.cps.toList.take i).map dig) ++ [D.bl b] = blD ((z.cps.toList.take (i + 1)).map dig) := by
        rintro b rfl
        rw [List.take_succ, e]
        simp [blD]
      refine tg_name (et_yes ⟨fun _ => ?_, fun h => nomatch h⟩)
      refine ev_chain (ev_str (ev_var rfl (od_leS ⟨_, rfl, fun h4 => ?_, fun h4 => fin _ ?_⟩)))
      · refine ev_str (od_leS (fin _ ?_))
        rw [le_0] at h4
        rw [le_9]
        unfold dig
        rw [h4, Bool.true_and]
      · rw [le_0] at h4
        unfold dig
        rw [h4, Bool.false_and]
  rintro l ds rfl rfl
  refine ea_nil (cd_all ⟨_, rfl, ?_⟩)
  have hall : ((z.cps.toList.take (signs z).length).map dig).all id = (digsL w).all dig := by
    rw [show (signs z).length = z.cps.toList.length from by unfold signs; rw [List.length_map], List.take_length, List.all_map, hz]
    rfl
  rw [hall]
  cases g3 : (digsL w).all dig
  · refine ⟨fun _ => do_ret (ev_non (none_ ?_)), fun h => nomatch h⟩
    unfold okNum
    rw [g3]
    simp
  refine ⟨(fun h => nomatch h), fun _ => do_next ?_⟩
  have g4 := intT_ok (w := w) (by omega) (by omega) g3
  have fin : okNum w = true → poNo [.str w] (.int (valOf w)) := fun h => ⟨w, rfl, by rw [numOf_some h]; rfl⟩
  have ok_ : (!decide ((digsL w)[0]? = some 48) || decide (w = Str.ofString "0")) = true → okNum w = true := fun h => by
    unfold okNum
    rw [h, g3, decide_eq_true (by omega), decide_eq_true (by omega)]
    rfl
  refine do_seq (do_if (et_and (et_test (ev_starts (ev_var (d := .str z) rfl ⟨z, rfl, ev_str ⟨_, rfl, _, rfl, fun hb => ?_, fun hb => ⟨(fun h => nomatch h), fun _ => do_next ?_⟩⟩⟩)))))
  · rw [nought_is, starts_one, hz] at hb
    refine et_B (ev_op (ev_var (d := .str w) rfl (ev_str (od_ne_str ⟨_, rfl, ?_⟩))))
    cases g5 : decide (w = Str.ofString "0")
    · refine ⟨fun _ => do_ret (ev_non (none_ ?_)), fun h => nomatch h⟩
      unfold okNum
      rw [hb, g5]
      simp
    · refine ⟨(fun h => nomatch h), fun _ => do_next ?_⟩
      exact do_ret (ev_cb (ea_cons (ev_var (d := .str w) rfl (ea_nil (cd_intT g4.1 (by omega) (fin (ok_ (by rw [g5]; simp))))))))
  · rw [nought_is, starts_one, hz] at hb
    exact do_ret (ev_cb (ea_cons (ev_var (d := .str w) rfl (ea_nil (cd_intT g4.1 (by omega) (fin (ok_ (by rw [hb]; rfl))))))))

end Pf

set_option maxHeartbeats 16000000
namespace Pf
open PySem L2 PfL RZ
local macro_rules | `(tactic| walk_at "ev") => `(tactic| first
  | ((with_reducible refine' ev_var ?h ?_); (case h => rfl))
  | with_reducible refine ev_int ?_
  | with_reducible refine ev_bl ?_
  | with_reducible refine ev_str ?_
  | with_reducible refine ev_non ?_
  | with_reducible refine ev_ty ?_
  | with_reducible refine ev_op ?_
  | with_reducible refine ev_un ?_
  | with_reducible refine ev_chain ?_
  | with_reducible refine ev_if ?_
  | with_reducible refine ev_and ?_
  | with_reducible refine ev_or ?_
  | with_reducible refine ev_not ?_
  | with_reducible refine ev_lst ?_
  | with_reducible refine ev_tup ?_
  | with_reducible refine ea_nil ?_
  | with_reducible refine ea_cons ?_
  | with_reducible refine ev_cb ?_
  | with_reducible refine et_test ?_
  | with_reducible refine et_B ?_
  | with_reducible refine et_and ?_
  | with_reducible refine et_or ?_
  | with_reducible refine et_not ?_
  | with_reducible refine et_yes ?_
  | with_reducible refine eo_none ?_
  | with_reducible refine eo_some ?_
  | with_reducible refine ev_slS ?_
  | with_reducible refine od_int ?_
  | with_reducible refine od_bl ?_
  | with_reducible refine od_eq_int ?_
  | with_reducible refine od_ne_int ?_
  | with_reducible refine od_eq_bl ?_
  | with_reducible refine od_ne_bl ?_
  | with_reducible refine od_eq_str ?_
  | with_reducible refine od_ne_str ?_
  | with_reducible refine od_leS ?_
  | with_reducible refine ud_isN ?_
  | with_reducible refine ud_notN ?_
  | with_reducible refine do_seq ?_
  | with_reducible refine do_set ?_
  | with_reducible refine do_ret ?_
  | with_reducible refine do_retN ?_
  | with_reducible refine do_if ?_
  | with_reducible refine do_next ?_
  | with_reducible refine tg_name ?_
  | with_reducible refine tgs_nil ?_
  | with_reducible refine tgs_cons ?_)
/-! ### lines and texts -/
def nlS : Str := Str.ofString "\n"
def lineOf (ws : List Str) : Str := Txt.join (Str.ofString " ") ws
def textOf (ls : List Str) : Str := Txt.join (Str.ofString "") (ls.map fun l => l ++ nlS)
theorem log2_small {n : Nat} (h : n < 10 ^ 20) : n.log2 < 1920 := by
  by_cases h0 : n = 0
  · subst h0
    decide
  · rw [Nat.log2_lt h0]
    exact Nat.lt_of_lt_of_le h (by decide +kernel)
theorem sum_le {k : Nat} : ∀ {zs : List Str}, (∀ z ∈ zs, z.length ≤ k) → (zs.map (·.length)).sum ≤ k * zs.length
  | [], _ => Nat.zero_le _
  | z :: zs, h => by
    have := sum_le fun y hy => h y (List.mem_cons_of_mem _ hy)
    have := h z (List.mem_cons_self ..)
    rw [List.map_cons, List.sum_cons, List.length_cons, Nat.mul_succ]
    omega
theorem joinL_len {s : List Nat} : ∀ ls : List (List Nat), (TL.joinL s ls).length ≤ (ls.map List.length).sum + ls.length * s.length
  | [] => Nat.zero_le _
  | [p] => by simp [TL.joinL]
  | p :: q :: r => by
    have := joinL_len (s := s) (q :: r)
    show (p ++ (s ++ TL.joinL s (q :: r))).length ≤ _
    rw [List.length_append, List.length_append, List.map_cons, List.sum_cons, List.length_cons, Nat.succ_mul]
    omega
theorem join_len (s : Str) (ls : List Str) : (Txt.join s ls).length ≤ (ls.map (·.length)).sum + ls.length * s.length := by
  rw [← str_len]
  show (TL.tl (Txt.join s ls)).length ≤ _
  rw [TL.join_eq, TL.tl_join]
  refine Nat.le_trans (joinL_len _) ?_
  rw [List.map_map, List.length_map]
  have e : (List.map (List.length ∘ TL.tl) ls) = ls.map (·.length) := List.map_congr_left fun z _ => str_len z
  rw [e]
  show _ + ls.length * (TL.tl s).length ≤ _
  rw [show (TL.tl s).length = s.length from str_len s]
  exact Nat.le_refl _
theorem sp_len : (Str.ofString " ").length = 1 := by decide +kernel
theorem nl_len : nlS.length = 1 := by decide +kernel
theorem em_len : (Str.ofString "").length = 0 := by decide +kernel
/-- the words of a display -/
def wD : D → Str | .str z => z | .int i => numS i | _ => Str.ofString ""
def WordD (x : D) : Prop := (∃ z : Str, x = .str z ∧ z.length ≤ 100) ∨ ∃ i : Int, x = .int i ∧ i.natAbs < 10 ^ 20
theorem WordD.len {x : D} (h : WordD x) : (wD x).length ≤ 100 := by
  rcases h with ⟨z, rfl, h⟩ | ⟨i, rfl, h⟩
  · exact h
  · have := (numS_len h).2
    show (numS i).length ≤ 100
    omega
/-! ### a text read -/
theorem nl_is : TL.tl (Str.ofString "\n") = [10] := by decide +kernel
theorem sp_is : TL.tl (Str.ofString " ") = [32] := by decide +kernel
theorem em_is : TL.tl (Str.ofString "") = [] := by decide +kernel
theorem split_words {ws : List Str} (hn : ws ≠ []) (h : ∀ w ∈ ws, 32 ∉ TL.tl w) : Txt.split (lineOf ws) (Str.ofString " ") = ws := TL.split_join sp_is (by decide +kernel) hn h
theorem joinL_mem {c : Nat} {s : List Nat} : ∀ {ls : List (List Nat)}, c ∈ TL.joinL s ls → c ∈ s ∨ ∃ l ∈ ls, c ∈ l
  | [], h => by cases h
  | [p], h => .inr ⟨p, by simp, h⟩
  | p :: q :: r, h => by
    have h : c ∈ p ++ (s ++ TL.joinL s (q :: r)) := h
    rcases List.mem_append.mp h with h | h
    · exact .inr ⟨p, by simp, h⟩
    rcases List.mem_append.mp h with h | h
    · exact .inl h
    rcases joinL_mem h with h | ⟨l, hl, h⟩
    · exact .inl h
    · exact .inr ⟨l, List.mem_cons_of_mem _ hl, h⟩
theorem line_free {ws : List Str} (h : ∀ w ∈ ws, 10 ∉ TL.tl w) : 10 ∉ TL.tl (lineOf ws) := fun hm => by
  unfold lineOf at hm
  rw [TL.join_eq, TL.tl_join, sp_is] at hm
  rcases joinL_mem hm with hm | ⟨l, hl, hm⟩
  · simp at hm
  · obtain ⟨w, hw, rfl⟩ := List.mem_map.mp hl
    exact h w hw hm
theorem txs_at0 {w : Str} {ws : List Str} : atI (txsD (w :: ws)) 0 = some (.str w) := atI_nat' (i := 0) (by decide) (by simp [txsD])
theorem cut_tail {x : D} {xs : List D} : cutD (x :: xs) (some 1) none = xs := by
  unfold cutD
  rw [HT.sIx_none, show (1 : Int) = ((1 : Nat) : Int) from rfl, HT.sIx_nat, Nat.min_eq_left (by simp)]
  simp
theorem text_sum2 {ls : List Str} {k : Nat} (h : ∀ l ∈ ls, l.length ≤ k) : ((ls.map fun l => l ++ nlS).map (·.length)).sum + (ls.map fun l => l ++ nlS).length * (Str.ofString "").length ≤ (k + 1) * ls.length := by
  have h := sum_le (k := k + 1) (zs := ls.map fun l => l ++ nlS) fun z hz => by
    obtain ⟨l, hl, rfl⟩ := List.mem_map.mp hz
    have := h l hl
    rw [add_len, nl_len]
    omega
  rw [List.length_map] at h ⊢
  rw [em_len, Nat.mul_zero]
  exact h
theorem text_len {ls : List Str} {k : Nat} (h : ∀ l ∈ ls, l.length ≤ k) : (textOf ls).length ≤ (k + 1) * ls.length := Nat.le_trans (join_len _ _) (text_sum2 h)
def preTx : List D → Prop := fun ds => ∃ ls : List Str, ds = [.lst (txsD ls)] ∧ ls.length ≤ 400 ∧ ∀ l ∈ ls, l.length ≤ 1000
def poTx : List D → D → Prop := fun ds d => ∃ ls : List Str, ds = [.lst (txsD ls)] ∧ d = .str (textOf ls)
theorem ok_text {P : Program} {w : World} {K : PySem.W.Frag} {mg : Str → Option Value} {base : Heap} (T : Txt K mg) : FnOk P w K mg base CX0 6 T.f_text T.fd_text ["_law_lines"] (spD K preTx poTx) := by
  refine T.F_text.ok sc_text (spD_len fun ds ⟨i, e, _⟩ => by rw [e]; rfl) (fun cdv A outer s H vs Q E hr h => ?_)
  refine ⟨_, (pss_one (ps_ret (pe_join pe_str (pe_lc (own := [("_law_line", 1)]) rfl sc_text.nd (piL K (pv 0)) (blkOk_by (N := N_text) (sc := defScope s_text) (by decide +kernel)) (fun _ _ _ _ _ => (pg_name (i := 1) sc_text.nd rfl (Or.inl rfl))) (fun _ _ _ _ _ => pts_nil) (fun _ _ _ _ _ => (pe_op op_add_str (pv 1) pe_str)))))), ?_⟩
  refine enterD h fun M ds pre _ => ?_
  obtain ⟨ls, rfl, hn, hw⟩ := pre
  refine do_ret (ev_m1 (ev_str ⟨_, rfl, EvN.ev ?_⟩))
  refine en_lc (js := [1]) (PX := fun l => l = txsD ls) (it_list (ev_var rfl ⟨_, rfl, rfl⟩)) (fun l e => by rw [e, txsD, List.length_map]; omega) (by decide) (fun l i acc => acc = strD ((ls.take i).map fun l => l ++ nlS)) (fun l e => rfl) ?_ ?_
  · rintro l i x acc rfl hi rfl
    unfold txsD at hi
    rw [List.getElem?_map] at hi
    cases hx : ls[i]? with
    | none => rw [hx] at hi; cases hi
    | some y =>
      rw [hx] at hi
      obtain rfl : D.str y = x := Option.some.inj hi
      have hy := hw y (List.mem_of_getElem? hx)
      refine tg_name (et_yes ⟨fun _ => ev_op (ev_var rfl (ev_str (od_addS ?_ ?_))), fun h => nomatch h⟩)
      · rw [show (Str.ofString "\n").length = 1 from nl_len]
        omega
      · show strD _ ++ [D.str (y ++ nlS)] = _
        rw [List.take_succ, hx]
        simp [strD]
  rintro l ds rfl rfl
  rw [txsD, List.length_map, List.take_length]
  refine cd_join ?_ ⟨ls, rfl, rfl⟩
  have := text_sum2 hw
  omega
theorem txsD_inj : ∀ {xs ys : List Str}, txsD xs = txsD ys → xs = ys
  | [], [], _ => rfl
  | [], _ :: _, h => by cases h
  | _ :: _, [], h => by cases h
  | x :: xs, y :: ys, h => by
    obtain ⟨a, b⟩ := List.cons.inj h
    rw [D.str.inj a, txsD_inj b]

end Pf

set_option maxHeartbeats 16000000
namespace Pf
open PySem L2 PfL RZ
local macro_rules | `(tactic| walk_at "ev") => `(tactic| first
  | ((with_reducible refine' ev_var ?h ?_); (case h => rfl))
  | with_reducible refine ev_int ?_
  | with_reducible refine ev_bl ?_
  | with_reducible refine ev_str ?_
  | with_reducible refine ev_non ?_
  | with_reducible refine ev_ty ?_
  | with_reducible refine ev_op ?_
  | with_reducible refine ev_un ?_
  | with_reducible refine ev_chain ?_
  | with_reducible refine ev_if ?_
  | with_reducible refine ev_and ?_
  | with_reducible refine ev_or ?_
  | with_reducible refine ev_not ?_
  | with_reducible refine ev_lst ?_
  | with_reducible refine ev_tup ?_
  | with_reducible refine ea_nil ?_
  | with_reducible refine ea_cons ?_
  | with_reducible refine ev_cb ?_
  | with_reducible refine et_test ?_
  | with_reducible refine et_B ?_
  | with_reducible refine et_and ?_
  | with_reducible refine et_or ?_
  | with_reducible refine et_not ?_
  | with_reducible refine et_yes ?_
  | with_reducible refine eo_none ?_
  | with_reducible refine eo_some ?_
  | with_reducible refine ev_slS ?_
  | with_reducible refine od_int ?_
  | with_reducible refine od_bl ?_
  | with_reducible refine od_eq_int ?_
  | with_reducible refine od_ne_int ?_
  | with_reducible refine od_eq_bl ?_
  | with_reducible refine od_ne_bl ?_
  | with_reducible refine od_eq_str ?_
  | with_reducible refine od_ne_str ?_
  | with_reducible refine od_leS ?_
  | with_reducible refine ud_isN ?_
  | with_reducible refine ud_notN ?_
  | with_reducible refine do_seq ?_
  | with_reducible refine do_set ?_
  | with_reducible refine do_ret ?_
  | with_reducible refine do_retN ?_
  | with_reducible refine do_if ?_
  | with_reducible refine do_next ?_
  | with_reducible refine tg_name ?_
  | with_reducible refine tgs_nil ?_
  | with_reducible refine tgs_cons ?_)
/-! ### the text of a reader -/
def goalS : Option Int → Str | none => Str.ofString "-" | some i => numS i
def wordsS (s : StT) : List Str := Str.ofString "state" :: numS s.1 :: goalS s.2.2.1 :: goalS s.2.2.2 :: s.2.1.map numS
def headR (r : RdT) : List Str := [Str.ofString "reader", r.m, r.i, r.o]
def linesR (r : RdT) : List Str := lineOf (headR r) :: r.ss.map fun s => lineOf (wordsS s)
theorem GoodSt.small {n : Int} {P : Nat} {s : StT} (g : GoodSt n P s) (hn : n ≤ 6) (hP : P ≤ 4) : s.1.natAbs < 10 ^ 20 ∧ (∀ i, s.2.2.1 = some i → i.natAbs < 10 ^ 20) ∧ (∀ i, s.2.2.2 = some i → i.natAbs < 10 ^ 20) ∧ (∀ a ∈ s.2.1, a.natAbs < 10 ^ 20) ∧ s.2.1.length ≤ 4 := by
  have a := g.s0
  have b := g.s1
  refine ⟨by omega, fun i h => ?_, fun i h => ?_, fun x hx => ?_, by rw [g.al]; exact hP⟩
  · have := g.fu i h
    omega
  · have := g.th i h
    omega
  · have := g.as x hx
    omega
theorem goal_21 {o : Option Int} (h : ∀ i, o = some i → i.natAbs < 10 ^ 20) : (goalS o).length ≤ 21 := by
  cases o with
  | none => show (Str.ofString "-").length ≤ 21; decide +kernel
  | some i => exact (numS_len (h i rfl)).2
theorem st_21 {n : Int} {P : Nat} {s : StT} (g : GoodSt n P s) (hn : n ≤ 6) (hP : P ≤ 4) : (∀ w ∈ wordsS s, w.length ≤ 21) ∧ (wordsS s).length ≤ 8 := by
  obtain ⟨h1, h2, h3, h4, h5⟩ := g.small hn hP
  refine ⟨fun w hw => ?_, by simp [wordsS]; omega⟩
  unfold wordsS at hw
  rcases List.mem_cons.mp hw with rfl | hw
  · decide +kernel
  rcases List.mem_cons.mp hw with rfl | hw
  · exact (numS_len h1).2
  rcases List.mem_cons.mp hw with rfl | hw
  · exact goal_21 h2
  rcases List.mem_cons.mp hw with rfl | hw
  · exact goal_21 h3
  · obtain ⟨a, ha, rfl⟩ := List.mem_map.mp hw
    exact (numS_len (h4 a ha)).2
theorem inner_len : ∀ z ∈ inners, z.length ≤ 21 := by decide +kernel
theorem order_len : ∀ z ∈ orders, z.length ≤ 21 := by decide +kernel
theorem marks_len : ∀ z ∈ marks, z.length ≤ 21 := by decide +kernel
theorem hd_21 {r : RdT} (g : GoodRd r) : (∀ w ∈ headR r, w.length ≤ 21) ∧ (headR r).length ≤ 8 := by
  refine ⟨fun w hw => ?_, by simp [headR]⟩
  unfold headR at hw
  rcases List.mem_cons.mp hw with rfl | hw
  · decide +kernel
  rcases List.mem_cons.mp hw with rfl | hw
  · exact marks_len _ g.m
  rcases List.mem_cons.mp hw with rfl | hw
  · exact inner_len _ g.i
  · rw [List.mem_singleton.mp hw]
    exact order_len _ g.o
theorem linesR_len {r : RdT} : (linesR r).length = r.ss.length + 1 := by simp [linesR]
/-! ### the text of a reader read -/
theorem low_free {w : Str} {c : Nat} (h : (w.cps.toList.all fun x => decide (45 ≤ x)) = true) (hc : c = 10 ∨ c = 32) : c ∉ TL.tl w := fun hm => by
  have := of_decide_eq_true (List.all_eq_true.mp h c hm)
  omega
theorem marks_low : ∀ z ∈ marks ++ inners ++ orders, (z.cps.toList.all fun x => decide (45 ≤ x)) = true := by decide +kernel
theorem goal_low {o : Option Int} {c : Nat} (h : ∀ i, o = some i → i.natAbs < 10 ^ 20) (hc : c = 10 ∨ c = 32) : c ∉ TL.tl (goalS o) := by
  cases o with
  | none => exact low_free (w := Str.ofString "-") (by decide +kernel) hc
  | some i => exact numS_free (h i rfl) (by omega)
theorem hd_free {r : RdT} (g : GoodRd r) {c : Nat} (hc : c = 10 ∨ c = 32) : ∀ w ∈ headR r, c ∉ TL.tl w := fun w hw => by
  unfold headR at hw
  rcases List.mem_cons.mp hw with rfl | hw
  · exact low_free (by decide +kernel) hc
  rcases List.mem_cons.mp hw with rfl | hw
  · exact low_free (marks_low _ (by simp [g.m])) hc
  rcases List.mem_cons.mp hw with rfl | hw
  · exact low_free (marks_low _ (by simp [g.i])) hc
  · rw [List.mem_singleton.mp hw]
    exact low_free (marks_low _ (by simp [g.o])) hc
theorem numOf_dash : numOf (Str.ofString "-") = none := numOf_none (by decide +kernel)
theorem numOf_goal {o : Option Int} (h : ∀ i, o = some i → i.natAbs < 10 ^ 20) : numOf (goalS o) = o := by
  cases o with
  | none => exact numOf_dash
  | some i => exact numOf_numS (h i rfl)
theorem no_opt (o : Option Int) : noD o = optD o := by cases o <;> rfl
theorem cut24 {a b c d : D} {xs : List D} : cutD (a :: b :: c :: d :: xs) (some 2) (some 4) = [c, d] := by
  unfold cutD
  rw [show (2 : Int) = ((2 : Nat) : Int) from rfl, show (4 : Int) = ((4 : Nat) : Int) from rfl, HT.sIx_nat, HT.sIx_nat, Nat.min_eq_left (by simp), Nat.min_eq_left (by simp)]
  simp
theorem ev_lenO {F : Fm} {δ : List SD} {P : D → Prop} {i : Nat} {p : Addr} {ds : List D} (hi : δ[i]? = some (.own p (.lst ds))) (pz : P (.int (ds.length : Int))) : Ev F (tCB (rLenK F.K) (tCons (tVar i) tNil)) δ P := fun M σ H Q c q => by
  obtain ⟨y, h1, hy, m, ho, h3, r0⟩ := c.sl i _ hi
  subst hy
  cases r0 with
  | @lst ws _ r0 =>
    exact ⟨_, h1, _, ds.length, rfl, .inl ⟨_, SqL.of h3, r0.length.symm⟩, q _ _ H pz c (StepB.refl _ _) (.int _)⟩
theorem rd_eta {m i o : Str} {ss : List StT} {r' : RdT} (e1 : [D.str m] = [.str r'.m]) (e2 : stsD ss = stsD r'.ss) (e3 : [D.str i, .str o] = [.str r'.i, .str r'.o]) : r' = ⟨m, i, o, ss⟩ := by
  obtain ⟨m', i', o', ss'⟩ := r'
  simp only [List.cons.injEq, D.str.injEq, and_true] at e1 e2 e3
  obtain ⟨rfl, rfl⟩ := e3
  subst e1
  rw [stsD_inj e2]
/-! ### the law's own lines -/
def preGw : List D → Prop := fun ds => ∃ o : Option Int, ds = [optD o] ∧ ∀ i, o = some i → i.natAbs < 10 ^ 20
def poGw : List D → D → Prop := fun ds d => ∃ o : Option Int, ds = [optD o] ∧ d = .str (goalS o)
theorem ok_goal_word {P : Program} {w : World} {K : PySem.W.Frag} {mg : Str → Option Value} {base : Heap} (T : Txt K mg) : FnOk P w K mg base CX0 2 T.f_goal_word T.fd_goal_word ["_law_goal"] (spD K preGw poGw) := by
  refine T.F_goal_word.ok sc_goal_word (spD_len fun ds ⟨i, e, _⟩ => by rw [e]; rfl) (fun cdv A outer s H vs Q E hr h => ?_)
  refine ⟨_, (pss_one (ps_ret (pe_ifExp (pt_cmpR op_isN (pv 0) pe_non (nomark _)) pe_str (pe_callTy callStrA (by rfl) T.b_str (by decide +kernel) (pa_cons (pv 0) pa_nil))))), ?_⟩
  refine enterD h fun M ds pre _ => ?_
  obtain ⟨o, rfl, ho⟩ := pre
  refine do_ret (ev_if (et_B (ev_op (ev_var rfl (ev_non (ud_isN ⟨_, rfl, fun h => ?_, fun h => ?_⟩))))))
  · cases o with
    | none => exact ev_str ⟨none, rfl, rfl⟩
    | some i => simp [optD, isNon] at h
  · cases o with
    | none => simp [optD, isNon] at h
    | some i => exact ev_cb (ea_cons (ev_var (d := .int i) rfl (ea_nil (cd_strAI (log2_small (ho i rfl)) ⟨some i, rfl, rfl⟩))))
theorem gw_of {o : Option Int} {d : D} (h : poGw [optD o] d) : d = .str (goalS o) := by
  obtain ⟨o', e, rfl⟩ := h
  rw [optD_inj (List.cons.inj e).1]
theorem head_line (r : RdT) : (Str.ofString "reader " ++ r.m ++ Str.ofString " " ++ r.i ++ Str.ofString " " ++ r.o : Str) = lineOf (headR r) := by
  refine TL.ext_tl ?_
  unfold lineOf headR
  rw [TL.join_eq, TL.tl_join, TL.tl_append, TL.tl_append, TL.tl_append, TL.tl_append, TL.tl_append]
  have e1 : TL.tl (Str.ofString "reader ") = TL.tl (Str.ofString "reader") ++ TL.tl (Str.ofString " ") := by decide +kernel
  show _ = TL.tl (Str.ofString "reader") ++ (TL.tl (Str.ofString " ") ++ (TL.tl r.m ++ (TL.tl (Str.ofString " ") ++ (TL.tl r.i ++ (TL.tl (Str.ofString " ") ++ TL.tl r.o)))))
  rw [e1]
  simp only [List.append_assoc]
def preRL : List D → Prop := fun ds => ∃ r : RdT, ds = [specD r] ∧ GoodRd r
def poRL : List D → D → Prop := fun ds d => ∃ r : RdT, ds = [specD r] ∧ d = .lst (txsD (linesR r))
theorem ok_reader_lines {P : Program} {w : World} {K : PySem.W.Frag} {mg : Str → Option Value} {base : Heap} (T : Txt K mg) : FnOk P w K mg base CX0 6 T.f_reader_lines T.fd_reader_lines ["_law_spec_here"] (spD K preRL poRL) := by
  refine T.F_reader_lines.ok sc_reader_lines (spD_len fun ds ⟨r, e, _⟩ => by rw [e]; rfl) (fun cdv A outer s H vs Q E hr h => ?_)
  refine ⟨_, (pss_cons (ps_set (i := 1) sc_reader_lines.nd rfl (Or.inl rfl) (pe_lst (pa_cons (pe_op op_add_str (pe_op op_add_str (pe_op op_add_str (pe_op op_add_str (pe_op op_add_str pe_str (pe_ix (ixT K) (pv 0) pe_int (fun _ _ => rfl))) pe_str) (pe_ix (ixT K) (pv 0) pe_int (fun _ _ => rfl))) pe_str) (pe_ix (ixT K) (pv 0) pe_int (fun _ _ => rfl))) pa_nil)))
    (pss_cons (ps_for PassesOwn.never rfl (piL K (pe_ix (ixT K) (pv 0) pe_int (fun _ _ => rfl))) (pgTup K (n := 4) rfl (pgs_cons (pg_name (i := 2) sc_reader_lines.nd rfl (Or.inl rfl)) (pgs_cons (pg_name (i := 3) sc_reader_lines.nd rfl (Or.inl rfl)) (pgs_cons (pg_name (i := 4) sc_reader_lines.nd rfl (Or.inl rfl)) (pgs_cons (pg_name (i := 5) sc_reader_lines.nd rfl (Or.inl rfl)) pgs_nil)))))
      (pss_cons (ps_set (i := 6) sc_reader_lines.nd rfl (Or.inl rfl) (pe_lst (pa_cons pe_str (pa_cons (pe_callTy callStrA (by rfl) T.b_str (by decide +kernel) (pa_cons (pv 2) pa_nil)) (pa_cons (pe_call (ok_goal_word T) (hr.mono (by decide)) rfl T.g_goal_word T.k_goal_word T.bd_goal_word .nil pass0 (pa_cons (pv 4) pa_nil)) (pa_cons (pe_call (ok_goal_word T) (hr.mono (by decide)) rfl T.g_goal_word T.k_goal_word T.bd_goal_word .nil pass0 (pa_cons (pv 5) pa_nil)) pa_nil))))))
      (pss_one (ps_expr (pe_bm PySem.F.plainAttrs_list PySem.F.slot_list_append PySem.F.type_list_append (mt_append) (pv 1) (pa_cons (pe_join pe_str (pe_op op_cat (pv 6) (pe_lc (own := [("_law_ask", 7)]) rfl sc_reader_lines.nd (piT K (pv 3)) (blkOk_by (N := N_reader_lines) (sc := defScope s_reader_lines) (by decide +kernel)) (fun _ _ _ _ _ => (pg_name (i := 7) sc_reader_lines.nd rfl (Or.inl rfl))) (fun _ _ _ _ _ => pts_nil) (fun _ _ _ _ _ => (pe_callTy callStrA (by rfl) T.b_str (by decide +kernel) (pa_cons (pv 7) pa_nil)))))) pa_nil))))))
    (pss_one (ps_ret (pv 1))))), ?_⟩
  refine enterD h fun M ds pre _ => ?_
  obtain ⟨r, rfl, g⟩ := pre
  have n6 := g.ss.n6
  have l1 := marks_len _ g.m
  have l2 := inner_len _ g.i
  have l3 := order_len _ g.o
  have l4 : (Str.ofString "reader ").length = 7 := by decide +kernel
  have l5 := sp_len
  have at0 : atI [D.str r.m, .str r.i, .str r.o, .lst (stsD r.ss)] 0 = some (.str r.m) := rfl
  have at1 : atI [D.str r.m, .str r.i, .str r.o, .lst (stsD r.ss)] 1 = some (.str r.i) := rfl
  have at2 : atI [D.str r.m, .str r.i, .str r.o, .lst (stsD r.ss)] 2 = some (.str r.o) := rfl
  have at3 : atI [D.str r.m, .str r.i, .str r.o, .lst (stsD r.ss)] 3 = some (.lst (stsD r.ss)) := rfl
  refine do_seq (do_own (en_lst (ea_cons (ev_op (ev_op (ev_op (ev_op (ev_op (ev_str (ev_op (ev_var (d := specD r) rfl (ev_int (od_ixT at0 (od_addS (by omega) ?_))))))))))))))
  refine ev_str (od_addS (by rw [add_len]; omega) ?_)
  refine ev_op (ev_var (d := specD r) rfl (ev_int (od_ixT at1 (od_addS (by rw [add_len, add_len]; omega) ?_))))
  refine ev_str (od_addS (by rw [add_len, add_len, add_len]; omega) ?_)
  refine ev_op (ev_var (d := specD r) rfl (ev_int (od_ixT at2 (od_addS (by rw [add_len, add_len, add_len, add_len]; omega) ?_))))
  refine ea_nil ⟨by simp, fun p => ?_⟩
  refine do_seq ?_
  refine do_for (js := [2, 3, 4, 5]) (PX := fun l => l = stsD r.ss) (it_list (ev_op (ev_var (d := specD r) rfl (ev_int (od_ixT at3 ⟨_, rfl, rfl⟩))))) (fun l i δ => ∃ a b c d e, δ = [.dat (specD r), .own p (.lst (txsD ((linesR r).take (i + 1)))), a, b, c, d, e, .un]) (fun l e => ⟨.un, .un, .un, .un, .un, ?_⟩) ?_ ?_
  · show List.set _ _ _ = _
    have e0 : (linesR r).take (0 + 1) = [lineOf (headR r)] := rfl
    rw [e0, ← head_line]
    rfl
  · rintro l i d δ rfl hi ⟨a, b, c, d', e', rfl⟩
    obtain ⟨s, hs', rfl⟩ := stsD_get hi
    have hlt := (List.getElem?_eq_some_iff.mp hs').1
    have gs := g.ss.st s (List.mem_of_getElem? hs')
    obtain ⟨s1, s2, s3, s4, s5⟩ := gs.small (by omega) g.ss.p4
    have w21 := st_21 gs (by omega) g.ss.p4
    obtain ⟨sz, as, fu, th⟩ := s
    simp only at s1 s2 s3 s4 s5
    refine tg_tup rfl (tgs_cons (js := [2]) (ks := [3, 4, 5]) (tg_name (tgs_cons (js := [3]) (ks := [4, 5]) (tg_name (tgs_cons (js := [4]) (ks := [5]) (tg_name (tgs_cons (js := [5]) (ks := []) (tg_name (tgs_nil ?_)))))))))
    refine do_let (.lst [.str (Str.ofString "state"), .str (numS sz), .str (goalS fu), .str (goalS th)]) ?_ ?_
    · refine ev_lst (ea_cons (ev_str (ea_cons (ev_cb (ea_cons (ev_var (d := .int sz) rfl (ea_nil (cd_strAI (log2_small s1) (ea_cons (ev_call (ea_cons (ev_var rfl (ea_nil ⟨⟨fu, rfl, s2⟩, fun d hd => ?_⟩)))))))))))))
      obtain rfl := gw_of hd
      refine ea_cons (ev_call (ea_cons (ev_var rfl (ea_nil ⟨⟨th, rfl, s3⟩, fun d hd => ?_⟩))))
      obtain rfl := gw_of hd
      exact ea_nil ⟨by simp, rfl⟩
    refine do_append (i := 1) (p := p) rfl (by simp [txsD, linesR_len]; omega) (ev_m1 (ev_str ⟨_, rfl, ev_op (ev_var rfl (EvN.ev ?_))⟩))
    refine en_lc (js := [7]) (PX := fun l => l = as.map .int) (it_tup (ev_var rfl ⟨_, rfl, rfl⟩)) (fun l e => by rw [e, List.length_map]; omega) (by decide) (fun l i acc => acc = strD ((as.take i).map numS)) (fun l e => rfl) ?_ ?_
    · rintro l j x acc rfl hj rfl
      rw [List.getElem?_map] at hj
      cases hx : as[j]? with
      | none => rw [hx] at hj; cases hj
      | some y =>
        rw [hx] at hj
        obtain rfl : D.int y = x := Option.some.inj hj
        refine tg_name (et_yes ⟨fun _ => ev_cb (ea_cons (ev_var rfl (ea_nil (cd_strAI (log2_small (s4 y (List.mem_of_getElem? hx))) ?_)))), fun h => nomatch h⟩)
        show strD _ ++ [D.str (numS y)] = _
        rw [List.take_succ, hx]
        simp [strD]
    rintro l ds rfl rfl
    rw [List.length_map, List.take_length]
    refine od_cat (by simp [strD]; omega) ?_
    have e1 : ([.str (Str.ofString "state"), .str (numS sz), .str (goalS fu), .str (goalS th)] ++ strD (as.map numS) : List D) = strD (wordsS (sz, as, fu, th)) := rfl
    rw [e1]
    refine cd_join ?_ ?_
    · have := sum_le w21.1
      have := w21.2
      rw [sp_len]
      omega
    refine ⟨.dat (.int sz), .dat (.tup (as.map .int)), .dat (optD fu), .dat (optD th), .dat (.lst [.str (Str.ofString "state"), .str (numS sz), .str (goalS fu), .str (goalS th)]), ?_⟩
    have e2 : (linesR r)[i + 1]? = some (lineOf (wordsS (sz, as, fu, th))) := by
      unfold linesR
      rw [List.getElem?_cons_succ, List.getElem?_map, hs']
      rfl
    have e3 : txsD ((linesR r).take (i + 1)) ++ [D.str (lineOf (wordsS (sz, as, fu, th)))] = txsD ((linesR r).take (i + 1 + 1)) := by
      rw [List.take_succ (i := i + 1), e2]
      simp [txsD]
    rw [← e3]
    rfl
  · rintro l δ rfl ⟨a, b, c, d, e', rfl⟩
    have e : (linesR r).take ((stsD r.ss).length + 1) = linesR r := by
      refine List.take_of_length_le ?_
      rw [stsD_len, linesR_len]
      exact Nat.le_refl _
    rw [e]
    exact do_freeze (i := 1) rfl (do_ret (ev_var rfl ⟨r, rfl, rfl⟩))

end Pf

set_option maxHeartbeats 16000000
namespace Pf
open PySem L2 PfL RZ
local macro_rules | `(tactic| walk_at "ev") => `(tactic| first
  | ((with_reducible refine' ev_var ?h ?_); (case h => rfl))
  | with_reducible refine ev_int ?_
  | with_reducible refine ev_bl ?_
  | with_reducible refine ev_str ?_
  | with_reducible refine ev_non ?_
  | with_reducible refine ev_ty ?_
  | with_reducible refine ev_op ?_
  | with_reducible refine ev_un ?_
  | with_reducible refine ev_chain ?_
  | with_reducible refine ev_if ?_
  | with_reducible refine ev_and ?_
  | with_reducible refine ev_or ?_
  | with_reducible refine ev_not ?_
  | with_reducible refine ev_lst ?_
  | with_reducible refine ev_tup ?_
  | with_reducible refine ea_nil ?_
  | with_reducible refine ea_cons ?_
  | with_reducible refine ev_cb ?_
  | with_reducible refine et_test ?_
  | with_reducible refine et_B ?_
  | with_reducible refine et_and ?_
  | with_reducible refine et_or ?_
  | with_reducible refine et_not ?_
  | with_reducible refine et_yes ?_
  | with_reducible refine eo_none ?_
  | with_reducible refine eo_some ?_
  | with_reducible refine ev_slS ?_
  | with_reducible refine od_int ?_
  | with_reducible refine od_bl ?_
  | with_reducible refine od_eq_int ?_
  | with_reducible refine od_ne_int ?_
  | with_reducible refine od_eq_bl ?_
  | with_reducible refine od_ne_bl ?_
  | with_reducible refine od_eq_str ?_
  | with_reducible refine od_ne_str ?_
  | with_reducible refine od_leS ?_
  | with_reducible refine ud_isN ?_
  | with_reducible refine ud_notN ?_
  | with_reducible refine do_seq ?_
  | with_reducible refine do_set ?_
  | with_reducible refine do_ret ?_
  | with_reducible refine do_retN ?_
  | with_reducible refine do_if ?_
  | with_reducible refine do_next ?_
  | with_reducible refine tg_name ?_
  | with_reducible refine tgs_nil ?_
  | with_reducible refine tgs_cons ?_)
def gx (f n : Str) (x : D) : List (Str × D) := [(f, x), (("code" : Str), .str n)]
/-- raise C(x) -/
theorem do_raise1 {F : Fm} {δ : List SD} {ta : TA} {C : Addr} {R : PD} {PX : Addr → List (Str × D) → Prop} {f n : Str} (ok : RaiseOk F PX) (h : EvA F ta δ fun ds => ∃ x, ds = [x] ∧ plD x = true ∧ dep x ≤ 4 ∧ PX C (gx f n x)) :
    Do F (fun _ σ H => tMkX C 1 0 (spY F.K C (preCp 4) (postX1 n f)) gx1 ta tNil σ H fun cls d H' => F.E cls d H') δ R :=
  do_raiseX (n := 1) (m := 0) (gV := gx1) (gD := fun ds _ => ds) (fun H x vs zs ds es r rz h1 h2 => by
    match ds, es, h1, h2, r, rz with
    | [d], [], _, _, .cons r0 .nil, .nil => exact ⟨_, rfl, .cons r0 .nil⟩) ok (h.imp fun ds ⟨x, e, p, d, px⟩ => ea_nil ⟨by rw [e]; rfl, rfl, by decide, ⟨x, e, p, d⟩, fun gs ⟨d', e1, e2⟩ => by
      subst e
      cases e1
      rw [e2]
      exact px⟩)
/-! ### texts of tables read, with their errors -/
theorem joinL_nlsR (r : List Nat) : ∀ ls : List (List Nat), TL.joinL [] (ls.map fun l => l ++ [10]) ++ r = TL.joinL [10] (ls ++ [r])
  | [] => rfl
  | [p] => by
    show (p ++ [10]) ++ r = p ++ ([10] ++ r)
    simp
  | p :: q :: s => by
    show ((p ++ [10]) ++ ([] ++ TL.joinL [] ((q :: s).map fun l => l ++ [10]))) ++ r = p ++ ([10] ++ TL.joinL [10] (q :: s ++ [r]))
    rw [← joinL_nlsR r (q :: s)]
    simp
theorem join_nlsR (ls : List Str) (r : Str) : textOf ls ++ r = Txt.join (Str.ofString "\n") (ls ++ [r]) := by
  refine TL.ext_tl ?_
  unfold textOf
  rw [TL.tl_append, TL.join_eq, TL.tl_join, TL.join_eq, TL.tl_join, em_is, nl_is, List.map_append, List.map_cons, List.map_nil, ← joinL_nlsR, List.map_map, List.map_map]
  refine congrArg (TL.joinL [] · ++ TL.tl r) (List.map_congr_left fun l _ => ?_)
  show TL.tl (l ++ nlS) = TL.tl l ++ [10]
  rw [TL.tl_append]
  exact congrArg _ nl_is
structure Pieces (ls : List Str) (rest : Str) : Prop where
  fl : ∀ l ∈ ls, 10 ∉ TL.tl l
  fr : 10 ∉ TL.tl rest
  z : (textOf ls ++ rest).length ≤ 100000
theorem Pieces.split {ls : List Str} {rest : Str} (h : Pieces ls rest) : Txt.split (textOf ls ++ rest) (Str.ofString "\n") = ls ++ [rest] := by
  rw [join_nlsR]
  refine TL.split_join nl_is (by decide +kernel) (by simp) fun p hp => ?_
  rcases List.mem_append.mp hp with hp | hp
  · exact h.fl p hp
  · rw [List.mem_singleton.mp hp]
    exact h.fr
theorem pieces_inj {ls ls' : List Str} {r r' : Str} (h : Pieces ls r) (h' : Pieces ls' r') (e : textOf ls ++ r = textOf ls' ++ r') : ls = ls' ∧ r = r' := by
  have a := h.split
  have b := h'.split
  rw [e] at a
  have := a.symm.trans b
  exact ⟨List.append_inj_left' this rfl, by simpa using List.append_inj_right' this rfl⟩
def exT {K : PySem.W.Frag} {mg : Str → Option Value} (T : Txt K mg) (k : Int) (C : Addr) (gs : List (Str × D)) : Prop := C = T.c_InvalidText ∧ gs = gx "line" "InvalidText" (.int k)
def preSp : List D → Prop := fun ds => ∃ v, ds = [v] ∧ ((∃ ls rest, v = .str (textOf ls ++ rest) ∧ Pieces ls rest) ∨ (plD v = true ∧ isD v "str" = false))
def poSp : List D → D → Prop := fun ds d => ∃ ls rest, ds = [.str (textOf ls ++ rest)] ∧ Pieces ls rest ∧ d = .tup [.lst (txsD ls), .str rest]
theorem ok__split {P : Program} {w : World} {K : PySem.W.Frag} {mg : Str → Option Value} {base : Heap} (T : Txt K mg) : FnOk P w K mg base (L2.CX P w) 10 T.f__split T.fd__split ["text"] (spR K preSp poSp (fun ds C gs => ∃ v, ds = [v] ∧ isD v "str" = false ∧ exT T 0 C gs)) := by
  refine T.F__split.okX sc__split (fun vs H Q E s => spR_len (fun ds ⟨i, e, _⟩ => by rw [e]; rfl) s) (fun cdv A outer s H vs Q E hr h => ?_)
  refine ⟨_, (pss_cons (ps_if (pt_not (pt_val (pe_callB (callIsi K) (by rfl) T.b_isinstance (by decide +kernel) (pa_cons (pv 0) (pa_cons (pe_bltn (v := .ty "str") (by rfl) T.b_str (by decide +kernel) rfl) pa_nil))))) (pss_one (ps_raise rfl (takes_of rfl rfl rfl rfl) (pmk_x T.xa_InvalidText.x T.xa_InvalidText.iC T.xa_InvalidText.tI (ok_InvalidText_init T) (hr.mono (by decide)) rfl T.g_InvalidText (kxp_InvalidText T) pass0 (pa_cons pe_int pa_nil) pk_nil))) pss_nil)
    (pss_cons (ps_set (i := 1) sc__split.nd rfl (Or.inl rfl) (pe_bm PySem.F.plainAttrs_str PySem.F.slot_str_split PySem.F.type_str_split mtSplit (pv 0) (pa_cons pe_str pa_nil)))
    (pss_cons (ps_set (i := 2) sc__split.nd rfl (Or.inl rfl) (pe_bm0 PySem.F.plainAttrs_list PySem.F.slot_list_pop PySem.F.type_list_pop (mt_pop) (pv 1)))
    (pss_one (ps_ret (pe_tup (pa_cons (pv 1) (pa_cons (pv 2) pa_nil)))))))), ?_⟩
  refine enterR h fun M ds pre _ ok => ?_
  obtain ⟨v, rfl, ⟨ls, rest, rfl, hp⟩ | ⟨pv, nv⟩⟩ := pre
  · refine do_seq (do_if (et_not (et_test (ev_cb (ea_cons (ev_var rfl (ea_cons (ev_ty (ea_nil (cd_isi (a := "str") rfl (by decide) ⟨_, rfl, ?_, fun _ => do_next ?_⟩))))))))))
    · exact fun h => nomatch h
    refine do_seq (do_own (en_split (ev_var rfl ⟨_, rfl, hp.z, ev_str ⟨_, rfl, by decide +kernel, fun p => ?_⟩⟩)))
    rw [hp.split]
    have e : txsD (ls ++ [rest]) = txsD ls ++ [.str rest] := by simp [txsD]
    rw [e]
    refine do_seq (do_popSet rfl ?_)
    exact do_freeze (i := 1) (p := p) rfl (do_ret (ev_tup (ea_cons (ev_var rfl (ea_cons (ev_var rfl (ea_nil ⟨by simp, ls, rest, rfl, hp, rfl⟩)))))))
  · obtain ⟨a, ha⟩ := ty_of pv
    refine do_seq (do_if (et_not (et_test (ev_cb (ea_cons (ev_var rfl (ea_cons (ev_ty (ea_nil (cd_isi ha (by decide) ⟨_, rfl, fun h => ?_, fun h => ?_⟩))))))))))
    · exact do_raise1 ok (ea_cons (ev_int (ea_nil ⟨.int 0, rfl, by simp [plD], by simp [dep], v, rfl, nv, rfl, rfl⟩)))
    · rw [nv] at h
      cases h
structure LineOk (l : Str) : Prop where
  z : l.length ≤ 1000
  n : (Txt.split l (Str.ofString " ")).length ≤ 1000
  w : ∀ x ∈ Txt.split l (Str.ofString " "), x.length ≤ 1000

end Pf

set_option maxHeartbeats 16000000
namespace Pf
open PySem L2 PfL RZ
local macro_rules | `(tactic| walk_at "ev") => `(tactic| first
  | ((with_reducible refine' ev_var ?h ?_); (case h => rfl))
  | with_reducible refine ev_int ?_
  | with_reducible refine ev_bl ?_
  | with_reducible refine ev_str ?_
  | with_reducible refine ev_non ?_
  | with_reducible refine ev_ty ?_
  | with_reducible refine ev_op ?_
  | with_reducible refine ev_un ?_
  | with_reducible refine ev_chain ?_
  | with_reducible refine ev_if ?_
  | with_reducible refine ev_and ?_
  | with_reducible refine ev_or ?_
  | with_reducible refine ev_not ?_
  | with_reducible refine ev_lst ?_
  | with_reducible refine ev_tup ?_
  | with_reducible refine ea_nil ?_
  | with_reducible refine ea_cons ?_
  | with_reducible refine ev_cb ?_
  | with_reducible refine et_test ?_
  | with_reducible refine et_B ?_
  | with_reducible refine et_and ?_
  | with_reducible refine et_or ?_
  | with_reducible refine et_not ?_
  | with_reducible refine et_yes ?_
  | with_reducible refine eo_none ?_
  | with_reducible refine eo_some ?_
  | with_reducible refine ev_slS ?_
  | with_reducible refine od_int ?_
  | with_reducible refine od_bl ?_
  | with_reducible refine od_eq_int ?_
  | with_reducible refine od_ne_int ?_
  | with_reducible refine od_eq_bl ?_
  | with_reducible refine od_ne_bl ?_
  | with_reducible refine od_eq_str ?_
  | with_reducible refine od_ne_str ?_
  | with_reducible refine od_leS ?_
  | with_reducible refine ud_isN ?_
  | with_reducible refine ud_notN ?_
  | with_reducible refine do_seq ?_
  | with_reducible refine do_set ?_
  | with_reducible refine do_ret ?_
  | with_reducible refine do_retN ?_
  | with_reducible refine do_if ?_
  | with_reducible refine do_next ?_
  | with_reducible refine tg_name ?_
  | with_reducible refine tgs_nil ?_
  | with_reducible refine tgs_cons ?_)
/-! ### lines of readers read, with their errors -/
def preHd : List D → Prop := fun ds => ∃ l : Str, ds = [.str l] ∧ LineOk l
theorem plD_no (o : Option Int) : plD (noD o) = true := by cases o <;> simp [noD, plD]
def headQ (l : Str) : Option (Str × Str × Str) := match Txt.split l (Str.ofString " ") with
  | [a, b, c, d] => if a = Str.ofString "reader" then if b ∈ marks then if c ∈ inners then if d ∈ orders then some (b, c, d) else none else none else none else none
  | _ => none
theorem headQ_no {l : Str} (h : (Txt.split l (Str.ofString " ")).length ≠ 4) : headQ l = none := by
  unfold headQ
  generalize Txt.split l (Str.ofString " ") = ws at h
  match ws, h with
  | [], _ => rfl
  | [_], _ => rfl
  | [_, _], _ => rfl
  | [_, _, _], _ => rfl
  | [_, _, _, _], h => exact absurd rfl h
  | _ :: _ :: _ :: _ :: _ :: _, _ => rfl
theorem ok__read_head {P : Program} {w : World} {K : PySem.W.Frag} {mg : Str → Option Value} {base : Heap} (T : Txt K mg) : FnOk P w K mg base (L2.CX P w) 10 T.f__read_head T.fd__read_head ["line"] (spR K preHd (fun ds d => ∃ (l m i o : Str), ds = [.str l] ∧ headQ l = some (m, i, o) ∧ m ∈ marks ∧ i ∈ inners ∧ o ∈ orders ∧ d = .lst [.str m, .str i, .str o]) (fun ds C gs => ∃ l : Str, ds = [.str l] ∧ headQ l = none ∧ exT T 0 C gs)) := by
  refine T.F__read_head.okX sc__read_head (fun vs H Q E s => spR_len (fun ds ⟨i, e, _⟩ => by rw [e]; rfl) s) (fun cdv A outer s H vs Q E hr h => ?_)
  refine ⟨_, (pss_cons (ps_set (i := 1) sc__read_head.nd rfl (Or.inl rfl) (pe_bm PySem.F.plainAttrs_str PySem.F.slot_str_split PySem.F.type_str_split mtSplit (pv 0) (pa_cons pe_str pa_nil)))
    (pss_cons (ps_if (PW.pt (pw_or (pt_cmpR op_ne (pe_callB (callLen K) (by rfl) T.b_len (by decide +kernel) (pa_cons (pv 1) pa_nil)) pe_int (nomark _)) (pw_or (pt_cmpR op_ne (pe_ix (ixL K) (pv 1) pe_int (fun _ _ => rfl)) pe_str (nomark _)) (pw_or (pt_cmpR (opNotIn K) (pe_ix (ixL K) (pv 1) pe_int (fun _ _ => rfl)) (peCval K (pe_glob (v := .ref T.c_Reader) rfl T.g_Reader rfl)) (by with_unfolding_all rfl)) (pw_or (pt_cmpR (opNotIn K) (pe_ix (ixL K) (pv 1) pe_int (fun _ _ => rfl)) (peCval K (pe_glob (v := .ref T.c_Reader) rfl T.g_Reader rfl)) (by with_unfolding_all rfl)) (pw_or1 (pt_cmpR (opNotIn K) (pe_ix (ixL K) (pv 1) pe_int (fun _ _ => rfl)) (peCval K (pe_glob (v := .ref T.c_Reader) rfl T.g_Reader rfl)) (by with_unfolding_all rfl)))))))) (pss_one (ps_raise rfl (takes_of rfl rfl rfl rfl) (pmk_x T.xa_InvalidText.x T.xa_InvalidText.iC T.xa_InvalidText.tI (ok_InvalidText_init T) (hr.mono (by decide)) rfl T.g_InvalidText (kxp_InvalidText T) pass0 (pa_cons pe_int pa_nil) pk_nil))) pss_nil)
    (pss_one (ps_ret (pe_slice (slL K) (pv 1) (po_some pe_int) po_none))))), ?_⟩
  refine enterR h fun M ds pre _ ok => ?_
  obtain ⟨l, rfl, hl⟩ := pre
  have hlz := hl.z
  have hln := hl.n
  obtain ⟨a1, u1, cv1, sq1⟩ := T.ct_Reader_MARKS
  obtain ⟨a2, u2, cv2, sq2⟩ := T.ct_Reader_INNER
  obtain ⟨a3, u3, cv3, sq3⟩ := T.ct_Reader_ORDERS
  have bad : ∀ {ta : TA} {δ : List SD} {R : PD}, headQ l = none → Do ⟨K, none, M, H, E, 0, []⟩ (fun _ σ H => tMkX T.c_InvalidText 1 0 (spY K T.c_InvalidText (preCp 4) (postX1 "InvalidText" "line")) gx1 (tCons (tC (.int 0)) tNil) tNil σ H fun cls d H' => E cls d H') δ R := fun {ta δ R} hb =>
    do_raise1 ok (ea_cons (ev_int (ea_nil ⟨.int 0, rfl, by simp [plD], by simp [dep], l, rfl, hb, rfl, rfl⟩)))
  refine do_seq (do_set (EvN.ev (en_split (ev_var rfl ⟨_, rfl, by omega, ev_str ⟨_, rfl, by decide +kernel, ?_⟩⟩))))
  cases hd4 : decide ((Txt.split l (Str.ofString " ")).length = 4)
  · have h4 := of_decide_eq_false hd4
    refine do_seq (do_if (et_or (et_B (ev_op (ev_cb (ea_cons (ev_var rfl (ea_nil (cd_lenK (k := (Txt.split l (Str.ofString " ")).length) (by simp [txsD, lenD]) (by omega) (ev_int (od_ne_int ⟨_, rfl, fun h => ?_, fun _ => ⟨fun _ => ?_, fun h => nomatch h⟩⟩)))))))))))
    · have : ((Txt.split l (Str.ofString " ")).length : Int) = 4 := by simpa using h
      omega
    · exact bad (ta := tNil) (headQ_no h4)
  have h4 := of_decide_eq_true hd4
  obtain ⟨a, b, c, e, hs⟩ : ∃ a b c e, Txt.split l (Str.ofString " ") = [a, b, c, e] := by
    generalize Txt.split l (Str.ofString " ") = ws at h4
    match ws, h4 with
    | [a, b, c, e], _ => exact ⟨a, b, c, e, rfl⟩
  rw [hs]
  have hh : headQ l = if a = Str.ofString "reader" then if b ∈ marks then if c ∈ inners then if e ∈ orders then some (b, c, e) else none else none else none else none := by
    unfold headQ
    rw [hs]
  have at0 : atI (txsD [a, b, c, e]) 0 = some (.str a) := rfl
  have at1 : atI (txsD [a, b, c, e]) 1 = some (.str b) := rfl
  have at2 : atI (txsD [a, b, c, e]) 2 = some (.str c) := rfl
  have at3 : atI (txsD [a, b, c, e]) 3 = some (.str e) := rfl
  refine do_seq (do_if (et_or (et_B (ev_op (ev_cb (ea_cons (ev_var rfl (ea_nil (cd_lenK (k := 4) rfl (by decide) (ev_int (od_ne_int ⟨_, rfl, fun _ => ?_, fun h => nomatch h⟩)))))))))))
  refine et_or (et_B (ev_op (ev_op (ev_var rfl (ev_int (od_ixL at0 (ev_str (od_ne_str ⟨_, rfl, fun h => ?_, fun h => ⟨fun _ => bad (ta := tNil) ?_, fun h => nomatch h⟩⟩))))))))
  rotate_left
  · rw [hh, if_neg (by simpa using h)]
  have ha : a = Str.ofString "reader" := by simpa using h
  rw [if_pos ha] at hh
  refine et_or (et_B (ev_op (ev_op (ev_var rfl (ev_int (od_ixL at1 (ev_ctup (zs := marks) T.cr_Reader cv1 sq1 (od_inStrs (neg := true) (t := true) ⟨_, rfl, fun h => ?_, fun h => ⟨fun _ => bad (ta := tNil) ?_, fun h => nomatch h⟩⟩) (ev_adr rfl))))))))
  rotate_left
  · rw [hh, if_neg (by simpa using h)]
  have hb : b ∈ marks := by simpa using h
  rw [if_pos hb] at hh
  refine et_or (et_B (ev_op (ev_op (ev_var rfl (ev_int (od_ixL at2 (ev_ctup (zs := inners) T.cr_Reader cv2 sq2 (od_inStrs (neg := true) (t := true) ⟨_, rfl, fun h => ?_, fun h => ⟨fun _ => bad (ta := tNil) ?_, fun h => nomatch h⟩⟩) (ev_adr rfl))))))))
  rotate_left
  · rw [hh, if_neg (by simpa using h)]
  have hc : c ∈ inners := by simpa using h
  rw [if_pos hc] at hh
  refine et_B (ev_op (ev_op (ev_var rfl (ev_int (od_ixL at3 (ev_ctup (zs := orders) T.cr_Reader cv3 sq3 (od_inStrs (neg := true) (t := true) ⟨_, rfl, fun h => bad (ta := tNil) ?_, fun h => do_next ?_⟩) (ev_adr rfl)))))))
  · rw [hh, if_neg (by simpa using h)]
  have he : e ∈ orders := by simpa using h
  rw [if_pos he] at hh
  refine do_ret (EvN.ev (en_slL (ev_var rfl (eo_some (ev_int ⟨1, rfl, eo_none ⟨_, rfl, l, b, c, e, rfl, hh, hb, hc, he, ?_⟩⟩)))))
  exact congrArg D.lst cut_tail
/-- a state as a line tells it, its goals not looked at -/
structure OkS (s : StT) : Prop where
  s0 : 1 ≤ s.1
  s1 : s.1 ≤ 9
  l0 : 1 ≤ s.2.1.length
  l4 : s.2.1.length ≤ 4
  as : ∀ a ∈ s.2.1, 1 ≤ a ∧ a ≤ 9
def goalOk (w : Str) : Bool := decide (w = Str.ofString "-") || (numOf w).isSome
def unI : D → Int | .int i => i | _ => 0
def unO : D → Option Int | .int i => some i | _ => none
def unSt : D → StT | .tup [a, .tup l, f, t] => (unI a, l.map unI, unO f, unO t) | _ => (0, [], none, none)
def noL (ws : List Str) : List D := ws.map fun w => noD (numOf w)
def stQ (l : Str) : Option D := match Txt.split l (Str.ofString " ") with
  | a :: b :: c :: d :: e :: r => if a = Str.ofString "state" then if (goalOk c && goalOk d) = true then if isSt (.tup [noD (numOf b), .tup (noL (e :: r)), .non, .non]) 1 = true then some (.tup [noD (numOf b), .tup (noL (e :: r)), noD (numOf c), noD (numOf d)]) else none else none else none
  | _ => none
def stP (l : Str) : Option StT := (stQ l).map unSt
theorem unO_no (o : Option Int) : unO (noD o) = o := by cases o <;> rfl
theorem unSt_of (s : StT) : unSt (stD s) = s := by
  obtain ⟨a, l, f, t⟩ := s
  show (a, (l.map D.int).map unI, unO (optD f), unO (optD t)) = _
  rw [List.map_map, ← no_opt, ← no_opt, unO_no, unO_no]
  have : l.map (unI ∘ D.int) = l := by
    conv => rhs; rw [← List.map_id l]
    exact List.map_congr_left fun _ _ => rfl
  rw [this]
theorem asks_of : ∀ {ws : List Str}, (noL ws).all askP = true → ∃ as : List Int, noL ws = as.map D.int ∧ ∀ a ∈ as, 1 ≤ a ∧ a ≤ 9
  | [], _ => ⟨[], rfl, fun a h => (by cases h)⟩
  | w :: ws, h => by
    have h : (askP (noD (numOf w)) && (noL ws).all askP) = true := h
    rw [Bool.and_eq_true] at h
    obtain ⟨as, e, ha⟩ := asks_of h.2
    cases hw : numOf w with
    | none => rw [hw] at h; exact absurd h.1 (by simp [askP, noD, isNum])
    | some i =>
      rw [hw] at h
      have hi : 1 ≤ i ∧ i ≤ 9 := by simpa [askP, noD, isNum] using h.1
      refine ⟨i :: as, ?_, fun a hm => ?_⟩
      · show noD (numOf w) :: noL ws = _
        rw [hw, e]
        rfl
      · rcases List.mem_cons.mp hm with rfl | hm
        · exact hi
        · exact ha a hm
theorem st_some {b c d : Str} {es : List Str} (h : isSt (.tup [noD (numOf b), .tup (noL es), .non, .non]) 1 = true) : ∃ s : StT, .tup [noD (numOf b), .tup (noL es), noD (numOf c), noD (numOf d)] = stD s ∧ OkS s ∧ s.2.2.1 = numOf c ∧ s.2.2.2 = numOf d := by
  have h : (isNum (noD (numOf b)) 1 9 && (areAsk (.tup (noL es)) && (folD .non 1 && folD .non 1))) = true := h
  simp only [Bool.and_eq_true] at h
  obtain ⟨h1, h2, _⟩ := h
  have h2 : (decide (1 ≤ (noL es).length) && (decide ((noL es).length ≤ 4) && (noL es).all askP)) = true := h2
  simp only [Bool.and_eq_true, decide_eq_true_eq] at h2
  obtain ⟨l0, l4, ha⟩ := h2
  obtain ⟨as, e, ha⟩ := asks_of ha
  cases hb : numOf b with
  | none => rw [hb] at h1; exact absurd h1 (by simp [noD, isNum])
  | some i =>
    rw [hb] at h1
    have hi : 1 ≤ i ∧ i ≤ 9 := by simpa [noD, isNum] using h1
    rw [e, List.length_map] at l0 l4
    refine ⟨(i, as, numOf c, numOf d), ?_, ⟨hi.1, hi.2, l0, l4, ha⟩, rfl, rfl⟩
    rw [e, no_opt, no_opt, no_opt]
    rfl
theorem stQ_few {l : Str} (h : (Txt.split l (Str.ofString " ")).length < 5) : stP l = none := by
  unfold stP stQ
  generalize Txt.split l (Str.ofString " ") = ws at h
  match ws, h with
  | [], _ => rfl
  | [_], _ => rfl
  | [_, _], _ => rfl
  | [_, _, _], _ => rfl
  | [_, _, _, _], _ => rfl
  | _ :: _ :: _ :: _ :: _ :: _, h => simp at h; omega
theorem goal_word {w : Str} : goalOk w = !(decide (w ≠ Str.ofString "-") && isNon (noD (numOf w))) := by
  unfold goalOk
  cases numOf w <;> by_cases h : w = Str.ofString "-" <;> simp [h, noD, isNon]
def poStQ : List D → D → Prop := fun ds d => ∃ l : Str, ds = [.str l] ∧ ((stP l = none ∧ d = .non) ∨ ∃ s, stP l = some s ∧ OkS s ∧ d = stD s)
theorem ok__state_of {P : Program} {w : World} {K : PySem.W.Frag} {mg : Str → Option Value} {base : Heap} (T : Txt K mg) : FnOk P w K mg base CX0 10 T.f__state_of T.fd__state_of ["line"] (spD K preHd poStQ) := by
  refine T.F__state_of.ok sc__state_of (spD_len fun ds ⟨i, e, _⟩ => by rw [e]; rfl) (fun cdv A outer s H vs Q E hr h => ?_)
  refine ⟨_, (pss_cons (ps_set (i := 1) sc__state_of.nd rfl (Or.inl rfl) (pe_bm PySem.F.plainAttrs_str PySem.F.slot_str_split PySem.F.type_str_split mtSplit (pv 0) (pa_cons pe_str pa_nil)))
    (pss_cons (ps_if (PW.pt (pw_or (pt_cmpR op_lt (pe_callB (callLen K) (by rfl) T.b_len (by decide +kernel) (pa_cons (pv 1) pa_nil)) pe_int (nomark _)) (pw_or1 (pt_cmpR op_ne (pe_ix (ixL K) (pv 1) pe_int (fun _ _ => rfl)) pe_str (nomark _))))) (pss_one (ps_ret pe_non)) pss_nil)
    (pss_cons (ps_if (pt_val (pe_callB (callAny K) (by rfl) T.b_any (by decide +kernel) (pa_cons (pe_lc (own := [("word", 6)]) rfl sc__state_of.nd (piL K (pe_slice (slL K) (pv 1) (po_some pe_int) (po_some pe_int))) (blkOk_by (N := N__state_of) (sc := defScope s__state_of) (by decide +kernel)) (fun _ _ _ _ _ => (pg_name (i := 6) sc__state_of.nd rfl (Or.inl rfl))) (fun _ _ _ _ _ => pts_nil) (fun _ _ _ _ _ => (pe_and (pe_cmpR op_ne (pv 6) pe_str (nomark _)) (pe_one (pe_cmpR op_isN (pe_call (ok_number_of T) (hr.mono (by decide)) rfl T.g_number_of T.k_number_of T.bd_number_of .nil pass0 (pa_cons (pv 6) pa_nil)) pe_non (nomark _)))))) pa_nil))) (pss_one (ps_ret pe_non)) pss_nil)
    (pss_cons (ps_asg (pe_lc (own := [("word", 6)]) rfl sc__state_of.nd (piL K (pe_slice (slL K) (pv 1) (po_some pe_int) po_none)) (blkOk_by (N := N__state_of) (sc := defScope s__state_of) (by decide +kernel)) (fun _ _ _ _ _ => (pg_name (i := 6) sc__state_of.nd rfl (Or.inl rfl))) (fun _ _ _ _ _ => pts_nil) (fun _ _ _ _ _ => (pe_call (ok_number_of T) (hr.mono (by decide)) rfl T.g_number_of T.k_number_of T.bd_number_of .nil pass0 (pa_cons (pv 6) pa_nil)))) (pg_unlS K (n := 3) rfl (pgs_cons (pg_name (i := 2) sc__state_of.nd rfl (Or.inl rfl)) (pgs_cons (pg_name (i := 3) sc__state_of.nd rfl (Or.inl rfl)) (pgs_cons (pg_name (i := 4) sc__state_of.nd rfl (Or.inl rfl)) (pgs_star (pg_name (i := 5) sc__state_of.nd rfl (Or.inl rfl)) pgs_nil))))))
    (pss_cons (ps_if (pt_not (pt_val (pe_call (ok__is_state T) (hr.mono (by decide)) rfl T.g__is_state T.k__is_state T.bd__is_state .nil pass0 (pa_cons (pe_tup (pa_cons (pv 2) (pa_cons (pe_callTy (callTuple K) (by rfl) T.b_tuple (by decide +kernel) (pa_cons (pv 5) pa_nil)) (pa_cons pe_non (pa_cons pe_non pa_nil))))) (pa_cons pe_int pa_nil))))) (pss_one (ps_ret pe_non)) pss_nil)
    (pss_one (ps_ret (pe_tup (pa_cons (pv 2) (pa_cons (pe_callTy (callTuple K) (by rfl) T.b_tuple (by decide +kernel) (pa_cons (pv 5) pa_nil)) (pa_cons (pv 3) (pa_cons (pv 4) pa_nil)))))))))))), ?_⟩
  refine enterD h fun M ds pre _ => ?_
  obtain ⟨l, rfl, hl⟩ := pre
  have hlz := hl.z
  have hln := hl.n
  have hlw := hl.w
  refine do_seq (do_set (EvN.ev (en_split (ev_var rfl ⟨_, rfl, by omega, ev_str ⟨_, rfl, by decide +kernel, ?_⟩⟩))))
  refine do_seq (do_if (et_or (et_B (ev_op (ev_cb (ea_cons (ev_var rfl (ea_nil (cd_lenK (k := (Txt.split l (Str.ofString " ")).length) (by simp [txsD, lenD]) (by omega) (ev_int (od_bl ⟨_, rfl, fun h => ?_, fun h => ?_⟩)))))))))))
  rotate_left
  · refine ⟨fun _ => do_ret (ev_non ⟨l, rfl, .inl ⟨stQ_few ?_, rfl⟩⟩), fun h => nomatch h⟩
    have := of_decide_eq_true h
    omega
  have h5 := of_decide_eq_false h
  obtain ⟨a, b, c, d, e, r, hs⟩ : ∃ a b c d e r, Txt.split l (Str.ofString " ") = a :: b :: c :: d :: e :: r := by
    generalize Txt.split l (Str.ofString " ") = ws at h5
    match ws, h5 with
    | [], h => simp at h
    | [_], h => simp at h
    | [_, _], h => simp at h
    | [_, _, _], h => simp at h
    | [_, _, _, _], h => simp at h
    | a :: b :: c :: d :: e :: r, _ => exact ⟨a, b, c, d, e, r, rfl⟩
  rw [hs] at hlw hln ⊢
  have hh : stP l = (if a = Str.ofString "state" then if (goalOk c && goalOk d) = true then if isSt (.tup [noD (numOf b), .tup (noL (e :: r)), .non, .non]) 1 = true then some (.tup [noD (numOf b), .tup (noL (e :: r)), noD (numOf c), noD (numOf d)]) else none else none else none : Option D).map unSt := by
    unfold stP stQ
    rw [hs]
  refine et_B (ev_op (ev_op (ev_var rfl (ev_int (od_ixL txs_at0 (ev_str (od_ne_str ⟨_, rfl, fun h => ?_, fun h => do_next ?_⟩)))))))
  · refine do_ret (ev_non ⟨l, rfl, .inl ⟨?_, rfl⟩⟩)
    rw [hh, if_neg (by simpa using h)]
    rfl
  have ha : a = Str.ofString "state" := by simpa using h
  rw [if_pos ha] at hh
  refine do_seq (do_if (et_test (ev_cb (ea_cons (EvN.ev ?_)))))
  refine en_lc (js := [6]) (PX := fun l => l = txsD [c, d]) (it_list (EvN.ev (en_slL (ev_var rfl (eo_some (ev_int ⟨2, rfl, eo_some (ev_int ⟨4, rfl, _, rfl, _, rfl, cut24⟩)⟩)))))) (fun l e => by rw [e]; simp [txsD]) (by decide) (fun l i acc => acc = blD (([c, d].take i).map fun w => !goalOk w)) (fun l e => rfl) ?_ ?_
  · rintro l' i x acc rfl hi rfl
    unfold txsD at hi
    rw [List.getElem?_map] at hi
    cases hx : ([c, d] : List Str)[i]? with
    | none => rw [hx] at hi; cases hi
    | some y =>
      rw [hx] at hi
      obtain rfl : D.str y = x := Option.some.inj hi
      have hy := hlw y (by
        have := List.mem_of_getElem? hx
        simp only [List.mem_cons, List.not_mem_nil, or_false] at this ⊢
        rcases this with rfl | rfl <;> simp)
      have up : blD (([c, d].take i).map fun w => !goalOk w) ++ [D.bl (!goalOk y)] = blD (([c, d].take (i + 1)).map fun w => !goalOk w) := by
        rw [List.take_succ, hx]
        simp [blD]
      refine tg_name (et_yes ⟨fun _ => ev_and (ev_op (ev_var rfl (ev_str (od_ne_str ⟨_, rfl, fun hb => ?_, fun hb => ?_⟩)))), fun h => nomatch h⟩)
      · refine ev_op (ev_call (ea_cons (ev_var rfl (ea_nil ⟨⟨y, rfl, hy⟩, ?_⟩))))
        rintro d' ⟨w', e', rfl⟩
        obtain rfl : y = w' := D.str.inj (List.cons.inj e').1
        have hb : y ≠ Str.ofString "-" := by simpa using hb
        refine ev_non (ud_isN ?_)
        rw [← up, goal_word]
        simp [hb]
      · have hb : y = Str.ofString "-" := by simpa using hb
        rw [← up]
        unfold goalOk
        rw [decide_eq_true hb]
        rfl
  rintro l' ds rfl rfl
  have e2 : (txsD [c, d]).length = 2 := rfl
  rw [e2]
  refine ea_nil (cd_any ⟨_, rfl, fun hb => ?_, fun hb => do_next ?_⟩)
  · refine do_ret (ev_non ⟨l, rfl, .inl ⟨?_, rfl⟩⟩)
    have hb : ((!goalOk c) || ((!goalOk d) || false)) = true := hb
    rw [hh, if_neg (by cases hc : goalOk c <;> cases hd : goalOk d <;> simp [hc, hd] at hb ⊢)]
    rfl
  have hg : (goalOk c && goalOk d) = true := by
    have hb : ((!goalOk c) || ((!goalOk d) || false)) = false := hb
    cases hc : goalOk c <;> cases hd : goalOk d <;> simp [hc, hd] at hb ⊢
  rw [if_pos hg] at hh
  refine do_seq (do_asg (js := [2, 3, 4, 5]) (EvN.ev ?_))
  refine en_lc (js := [6]) (PX := fun l => l = txsD (b :: c :: d :: e :: r)) (it_list (EvN.ev (en_slL (ev_var rfl (eo_some (ev_int ⟨1, rfl, eo_none ⟨_, rfl, _, rfl, cut_tail⟩⟩)))))) (fun l e => by rw [e]; simp [txsD] at hln ⊢; omega) (by decide) (fun l i acc => acc = noL ((b :: c :: d :: e :: r).take i)) (fun l e => rfl) ?_ ?_
  · rintro l' i x acc rfl hi rfl
    unfold txsD at hi
    rw [List.getElem?_map] at hi
    cases hx : (b :: c :: d :: e :: r)[i]? with
    | none => rw [hx] at hi; cases hi
    | some y =>
      rw [hx] at hi
      obtain rfl : D.str y = x := Option.some.inj hi
      have hy := hlw y (List.mem_cons_of_mem _ (List.mem_of_getElem? hx))
      refine tg_name (et_yes ⟨fun _ => ev_call (ea_cons (ev_var rfl (ea_nil ⟨⟨y, rfl, hy⟩, ?_⟩))), fun h => nomatch h⟩)
      rintro d' ⟨y', e', rfl⟩
      obtain rfl : y = y' := D.str.inj (List.cons.inj e').1
      show noL _ ++ _ = _
      rw [List.take_succ, hx]
      simp [noL]
  rintro l' ds rfl rfl
  rw [txsD, List.length_map, List.take_length]
  refine tg_unlS (n := 3) (by simp [noL]) (by simp [noL] at hln ⊢; omega) ?_
  show TgsD _ _ _ [noD (numOf b), noD (numOf c), noD (numOf d), .lst (noL (e :: r))] _ _
  refine tgs_cons (js := [2]) (ks := [3, 4, 5]) (tg_name (tgs_cons (js := [3]) (ks := [4, 5]) (tg_name (tgs_cons (js := [4]) (ks := [5]) (tg_name (tgs_cons (js := [5]) (ks := []) (tg_name (tgs_nil ?_))))))))
  have pno : plL (noL (e :: r)) = true := by
    generalize (e :: r) = ws
    induction ws with
    | nil => simp [noL, plL]
    | cons w ws ih =>
      show (plD (noD (numOf w)) && plL (noL ws)) = true
      rw [plD_no, ih]
      rfl
  have nlen : (noL (e :: r)).length ≤ 1000 := by
    simp [noL] at hln ⊢
    omega
  have plr : plD (.tup [noD (numOf b), .tup (noL (e :: r)), .non, .non]) = true := by
    simp only [plD, plL, plD_no, pno, decide_eq_true (show (noL (e :: r)).length ≤ 10000 by omega), Bool.and_true, Bool.true_and, List.length_cons, List.length_nil]
    exact decide_eq_true (by omega)
  refine do_seq (do_if (et_not (et_test (ev_call (ea_cons (ev_tup (ea_cons (ev_var rfl (ea_cons (ev_cb (ea_cons (ev_var rfl (ea_nil (cd_tupL (ea_cons (ev_non (ea_cons (ev_non (ea_nil ⟨by simp, ea_cons (ev_int (ea_nil ⟨⟨_, 1, rfl, plr⟩, ?_⟩))⟩)))))))))))))))))))
  rintro d' ⟨v, n, e', rfl⟩
  obtain ⟨e1, e2⟩ := List.cons.inj e'
  subst e1
  obtain rfl : (1 : Int) = n := D.int.inj (List.cons.inj e2).1
  refine ⟨_, rfl, fun hb => ?_, fun hb => do_next ?_⟩
  · refine do_ret (ev_non ⟨l, rfl, .inl ⟨?_, rfl⟩⟩)
    rw [hh, if_neg (by simpa using hb)]
    rfl
  have hb : isSt (.tup [noD (numOf b), .tup (noL (e :: r)), .non, .non]) 1 = true := by simpa using hb
  rw [if_pos hb] at hh
  obtain ⟨s, es, os, _, _⟩ := st_some (c := c) (d := d) hb
  refine do_ret (ev_tup (ea_cons (ev_var rfl (ea_cons (ev_cb (ea_cons (ev_var rfl (ea_nil (cd_tupL (ea_cons (ev_var rfl (ea_cons (ev_var rfl (ea_nil ⟨by simp, l, rfl, .inr ⟨s, ?_, os, es⟩⟩))))))))))))))
  rw [hh, es]
  show some (unSt (stD s)) = _
  rw [unSt_of]

end Pf

set_option maxHeartbeats 16000000
namespace Pf
open PySem L2 PfL RZ
local macro_rules | `(tactic| walk_at "ev") => `(tactic| first
  | ((with_reducible refine' ev_var ?h ?_); (case h => rfl))
  | with_reducible refine ev_int ?_
  | with_reducible refine ev_bl ?_
  | with_reducible refine ev_str ?_
  | with_reducible refine ev_non ?_
  | with_reducible refine ev_ty ?_
  | with_reducible refine ev_op ?_
  | with_reducible refine ev_un ?_
  | with_reducible refine ev_chain ?_
  | with_reducible refine ev_if ?_
  | with_reducible refine ev_and ?_
  | with_reducible refine ev_or ?_
  | with_reducible refine ev_not ?_
  | with_reducible refine ev_lst ?_
  | with_reducible refine ev_tup ?_
  | with_reducible refine ea_nil ?_
  | with_reducible refine ea_cons ?_
  | with_reducible refine ev_cb ?_
  | with_reducible refine et_test ?_
  | with_reducible refine et_B ?_
  | with_reducible refine et_and ?_
  | with_reducible refine et_or ?_
  | with_reducible refine et_not ?_
  | with_reducible refine et_yes ?_
  | with_reducible refine eo_none ?_
  | with_reducible refine eo_some ?_
  | with_reducible refine ev_slS ?_
  | with_reducible refine od_int ?_
  | with_reducible refine od_bl ?_
  | with_reducible refine od_eq_int ?_
  | with_reducible refine od_ne_int ?_
  | with_reducible refine od_eq_bl ?_
  | with_reducible refine od_ne_bl ?_
  | with_reducible refine od_eq_str ?_
  | with_reducible refine od_ne_str ?_
  | with_reducible refine od_leS ?_
  | with_reducible refine ud_isN ?_
  | with_reducible refine ud_notN ?_
  | with_reducible refine do_seq ?_
  | with_reducible refine do_set ?_
  | with_reducible refine do_ret ?_
  | with_reducible refine do_retN ?_
  | with_reducible refine do_if ?_
  | with_reducible refine do_next ?_
  | with_reducible refine tg_name ?_
  | with_reducible refine tgs_nil ?_
  | with_reducible refine tgs_cons ?_)
/-! ### read_reader with its errors -/
def goalIn (n : Int) (o : Option Int) : Bool := match o with | none => true | some i => decide (0 ≤ i) && decide (i ≤ n - 1)
def badGoal (n : Int) : Nat → List StT → Option Nat
  | _, [] => none
  | k, s :: r => if (goalIn n s.2.2.1 && goalIn n s.2.2.2) = true then badGoal n (k + 1) r else some k
theorem goalIn_num {n : Int} {o : Option Int} (h : isNon (optD o) = false) : isNum (optD o) 0 (n - 1) = goalIn n o := by
  cases o with
  | none => cases h
  | some i => rfl
theorem badGoal_none : ∀ {n : Int} {k : Nat} {ss : List StT}, badGoal n k ss = none → ∀ s ∈ ss, OptIn n s.2.2.1 ∧ OptIn n s.2.2.2
  | _, _, [], _, _, h => by cases h
  | n, k, s :: r, h, t, ht => by
    unfold badGoal at h
    by_cases hg : (goalIn n s.2.2.1 && goalIn n s.2.2.2) = true
    · rw [if_pos hg] at h
      rcases List.mem_cons.mp ht with rfl | ht
      · rw [Bool.and_eq_true] at hg
        refine ⟨fun i e => ?_, fun i e => ?_⟩
        · have := hg.1
          rw [e] at this
          simpa [goalIn] using this
        · have := hg.2
          rw [e] at this
          simpa [goalIn] using this
      · exact badGoal_none h t ht
    · rw [if_neg hg] at h
      cases h
def preCk : List D → Prop := fun ds => ∃ ss : List StT, ds = [.lst (stsD ss)] ∧ ss.length ≤ 100
def pxCk {K : PySem.W.Frag} {mg : Str → Option Value} (T : Txt K mg) : List D → Addr → List (Str × D) → Prop := fun ds C gs => ∃ (ss : List StT) (k : Nat), ds = [.lst (stsD ss)] ∧ badGoal ss.length 1 ss = some k ∧ exT T k C gs
theorem ok__check_goals {P : Program} {w : World} {K : PySem.W.Frag} {mg : Str → Option Value} {base : Heap} (T : Txt K mg) : FnOk P w K mg base (L2.CX P w) 10 T.f__check_goals T.fd__check_goals ["states"] (spR K preCk (fun ds d => ∃ ss : List StT, ds = [.lst (stsD ss)] ∧ badGoal ss.length 1 ss = none ∧ d = .non) (pxCk T)) := by
  refine T.F__check_goals.okX sc__check_goals (fun vs H Q E s => spR_len (fun ds ⟨i, e, _⟩ => by rw [e]; rfl) s) (fun cdv A outer s H vs Q E hr h => ?_)
  refine ⟨_, (pss_one (ps_for (passes_of rfl) rfl (pi_enumS K (by rfl) T.b_enumerate (pa_cons (pv 0) pa_nil) (pk_cons pe_int pk_nil)) (pgTup K (n := 2) rfl (pgs_cons (pg_name (i := 1) sc__check_goals.nd rfl (Or.inl rfl)) (pgs_cons (pgTup K (n := 4) rfl (pgs_cons (pg_name (i := 2) sc__check_goals.nd rfl (Or.inl rfl)) (pgs_cons (pg_name (i := 2) sc__check_goals.nd rfl (Or.inl rfl)) (pgs_cons (pg_name (i := 3) sc__check_goals.nd rfl (Or.inl rfl)) (pgs_cons (pg_name (i := 4) sc__check_goals.nd rfl (Or.inl rfl)) pgs_nil))))) pgs_nil)))
      (pss_one (ps_for (passes_of rfl) rfl (piT K (pe_tup (pa_cons (pv 3) (pa_cons (pv 4) pa_nil)))) (pg_name (i := 5) sc__check_goals.nd rfl (Or.inl rfl))
        (pss_one (ps_if (PW.pt (pw_and (pt_cmpR op_notN (pv 5) pe_non (nomark _)) (pw_and1 (pt_not (pt_val (pe_call (ok_is_number T) (hr.mono (by decide)) rfl T.g_is_number T.k_is_number T.bd_is_number .nil pass0 (pa_cons (pv 5) (pa_cons pe_int (pa_cons (pe_op op_sub (pe_callB (callLen K) (by rfl) T.b_len (by decide +kernel) (pa_cons (pv 0) pa_nil)) pe_int) pa_nil))))))))) (pss_one (ps_raise rfl (takes_of rfl rfl rfl rfl) (pmk_x T.xa_InvalidText.x T.xa_InvalidText.iC T.xa_InvalidText.tI (ok_InvalidText_init T) (hr.mono (by decide)) rfl T.g_InvalidText (kxp_InvalidText T) pass0 (pa_cons (pv 1) pa_nil) pk_nil))) pss_nil)))))), ?_⟩
  refine enterR h fun M ds pre _ ok => ?_
  obtain ⟨ss, rfl, n6⟩ := pre
  refine do_for (js := [1, 2, 2, 3, 4]) (PX := fun l => l = numberedS 1 (stsD ss)) (it_enumS (ev_var rfl ⟨_, rfl, ev_int ⟨1, rfl, by decide, by decide, rfl⟩⟩)) (fun l i δ => (∃ a b c d e, δ = [.dat (.lst (stsD ss)), a, b, c, d, e]) ∧ badGoal ss.length 1 ss = badGoal ss.length (i + 1) (ss.drop i)) (fun l e => ⟨⟨.un, .un, .un, .un, .un, rfl⟩, rfl⟩) ?_ ?_
  · rintro l i x δ rfl hi ⟨⟨a, b, c, d, e, rfl⟩, hb⟩
    have hlt : i < ss.length := by
      have := (List.getElem?_eq_some_iff.mp hi).1
      rwa [numberedS_len, stsD_len] at this
    obtain ⟨s, hs'⟩ : ∃ s, ss[i]? = some s := ⟨ss[i], List.getElem?_eq_getElem hlt⟩
    have e0 : (stsD ss)[i]? = some (stD s) := by
      unfold stsD
      rw [List.getElem?_map, hs']
      rfl
    rw [numberedS_get e0] at hi
    obtain rfl := Option.some.inj hi
    have hdr : ss.drop i = s :: ss.drop (i + 1) := by
      rw [List.drop_eq_getElem_cons hlt]
      congr 1
      exact Option.some.inj ((List.getElem?_eq_getElem hlt).symm.trans hs')
    rw [hdr] at hb
    have hb2 : badGoal ss.length 1 ss = if (goalIn ss.length s.2.2.1 && goalIn ss.length s.2.2.2) = true then badGoal ss.length (i + 1 + 1) (ss.drop (i + 1)) else some (i + 1) := by
      rw [hb]
      rfl
    refine tg_tup rfl (tgs_cons (js := [1]) (ks := [2, 2, 3, 4]) (tg_name (tgs_cons (js := [2, 2, 3, 4]) (ks := []) (tg_tup rfl (tgs_cons (js := [2]) (ks := [2, 3, 4]) (tg_name (tgs_cons (js := [2]) (ks := [3, 4]) (tg_name (tgs_cons (js := [3]) (ks := [4]) (tg_name (tgs_cons (js := [4]) (ks := []) (tg_name (tgs_nil (tgs_nil ?_))))))))))))))
    refine do_for (js := [5]) (PX := fun l => l = [optD s.2.2.1, optD s.2.2.2]) (it_tup (ev_tup (ea_cons (ev_var rfl (ea_cons (ev_var rfl (ea_nil ⟨by simp, _, rfl, rfl⟩))))))) (fun l j δ => (∃ b c d e, δ = [.dat (.lst (stsD ss)), .dat (.int (1 + (i : Nat))), b, c, d, e]) ∧ ∀ o ∈ [s.2.2.1, s.2.2.2].take j, goalIn ss.length o = true) (fun l e => ⟨⟨_, _, _, _, rfl⟩, fun o h => (by cases h)⟩) ?_ ?_
    · rintro l j y δ rfl hj ⟨⟨b, c, d, e, rfl⟩, hin⟩
      obtain ⟨o, ho, rfl⟩ : ∃ o : Option Int, [s.2.2.1, s.2.2.2][j]? = some o ∧ y = optD o := by
        match j, hj with
        | 0, hj => exact ⟨_, rfl, (Option.some.inj hj).symm⟩
        | 1, hj => exact ⟨_, rfl, (Option.some.inj hj).symm⟩
        | j + 2, hj => cases hj
      have up : goalIn ss.length o = true → ∀ o' ∈ [s.2.2.1, s.2.2.2].take (j + 1), goalIn ss.length o' = true := fun h o' ho' => by
        rw [List.take_succ, ho] at ho'
        rcases List.mem_append.mp ho' with h' | h'
        · exact hin o' h'
        · have : o' = o := by simpa using h'
          rw [this]
          exact h
      refine tg_name (do_if (et_and (et_B (ev_op (ev_var rfl (ev_non (ud_notN ⟨_, rfl, fun h => ?_, fun h => ⟨(fun h => nomatch h), fun _ => do_next ⟨⟨_, _, _, _, rfl⟩, up ?_⟩⟩⟩)))))))
      rotate_left
      · cases o with
        | none => rfl
        | some k => simp [optD, isNon] at h
      have h : isNon (optD o) = false := by simpa using h
      refine et_not (et_test (ev_num (ea_cons (ev_var rfl (ea_cons (ev_int (ea_cons (ev_op (ev_cb (ea_cons (ev_var rfl (ea_nil (cd_lenK (k := ss.length) (by simp [lenD, stsD]) (by omega) (ev_int (od_int (ea_nil ⟨_, _, _, rfl, plD_opt o, _, rfl, ?_⟩))))))))))))))))
      rw [goalIn_num h]
      refine ⟨fun hg => ?_, fun hg => do_next ⟨⟨_, _, _, _, rfl⟩, up (by simpa using hg)⟩⟩
      have hg : goalIn ss.length o = false := by simpa using hg
      refine do_raise1 ok (ea_cons (ev_var rfl (ea_nil ⟨.int (((i + 1 : Nat) : Int)), by congr 2; omega, by simp [plD], by simp [dep], ss, i + 1, rfl, ?_, rfl, rfl⟩)))
      rw [hb2, if_neg]
      intro hand
      rw [Bool.and_eq_true] at hand
      match j, ho with
      | 0, ho => rw [Option.some.inj ho] at hand; rw [hand.1] at hg; cases hg
      | 1, ho => rw [Option.some.inj ho] at hand; rw [hand.2] at hg; cases hg
      | j + 2, ho => cases ho
    · rintro l δ rfl ⟨⟨b, c, d, e, rfl⟩, hin⟩
      refine ⟨⟨_, _, _, _, _, rfl⟩, ?_⟩
      rw [hb2, if_pos]
      rw [hin s.2.2.1 (by simp), hin s.2.2.2 (by simp)]
      rfl
  · rintro l δ rfl ⟨⟨a, b, c, d, e, rfl⟩, hb⟩
    refine ⟨ss, rfl, ?_, rfl⟩
    rw [hb, numberedS_len, stsD_len, List.drop_length]
    rfl
def misfit (ss : List StT) (k : Nat) (s : StT) : Bool := decide (6 < k) || (match ss with | [] => false | s0 :: _ => decide (s.2.1.length ≠ s0.2.1.length))
/-- the lines behind the first, from the one with the index k on: the first that does not fit -/
def scanS : List StT → Nat → List Str → Option Nat × List StT
  | ss, _, [] => (none, ss)
  | ss, k, l :: ls => match stP l with
    | none => (some k, ss)
    | some s => if misfit ss k s = true then (some k, ss) else scanS (ss ++ [s]) (k + 1) ls
def readR (ls : List Str) (rest : Str) : Sum Nat RdT := match ls with
  | [] => .inl 0
  | h :: ls' => match headQ h with
    | none => .inl 0
    | some (m, i, o) => match scanS [] 1 ls' with
      | (some k, _) => .inl k
      | (none, ss) => if rest ≠ Str.ofString "" ∨ ss = [] then .inl (ls'.length + 1) else match badGoal ss.length 1 ss with
        | some k => .inl k
        | none => .inr ⟨m, i, o, ss⟩
def preRR : List D → Prop := fun ds => ∃ v, ds = [v] ∧ ((∃ ls rest, v = .str (textOf ls ++ rest) ∧ Pieces ls rest ∧ ∀ l ∈ ls, LineOk l) ∨ (plD v = true ∧ isD v "str" = false))
def poRR (c : Addr) : List D → D → Prop := fun ds d => ∃ ls rest r, ds = [.str (textOf ls ++ rest)] ∧ Pieces ls rest ∧ readR ls rest = .inr r ∧ GoodRd r ∧ d = .ins c (rdF r)
def pxRR {K : PySem.W.Frag} {mg : Str → Option Value} (T : Txt K mg) : List D → Addr → List (Str × D) → Prop := fun ds C gs => ∃ (v : D) (k : Nat), ds = [v] ∧ ((isD v "str" = false ∧ k = 0) ∨ ∃ ls rest, v = .str (textOf ls ++ rest) ∧ Pieces ls rest ∧ readR ls rest = .inl k) ∧ exT T k C gs
structure SoS (ss : List StT) (i : Nat) : Prop where
  n : ss.length = i
  z : ss.length ≤ 6
  ok : ∀ s ∈ ss, OkS s
  al : ∀ s ∈ ss, s.2.1.length = partsOf ss
theorem SoS.good {ss : List StT} {i : Nat} (h : SoS ss i) (ne : ss ≠ []) (hb : badGoal ss.length 1 ss = none) : GoodSts (partsOf ss) ss := by
  obtain ⟨s0, r, rfl⟩ := List.exists_cons_of_ne_nil ne
  have o0 := h.ok s0 (by simp)
  refine ⟨by simp, h.z, o0.l0, o0.l4, fun s hs => ?_⟩
  have o := h.ok s hs
  have g := badGoal_none hb s hs
  exact ⟨o.s0, o.s1, h.al s hs, o.as, g.1, g.2⟩
theorem lines_le {ls : List Str} {rest : Str} (pc : Pieces ls rest) : ls.length ≤ 100000 := by
  have h1 := pc.z
  rw [add_len] at h1
  have h2 : (textOf ls).length ≤ 100000 := by omega
  have key : ∀ ls : List Str, ls.length ≤ (textOf ls).length := fun ls => by
    unfold textOf
    rw [← str_len]
    show _ ≤ (TL.tl _).length
    rw [TL.join_eq, TL.tl_join, em_is, joinL_nil]
    induction ls with
    | nil => exact Nat.zero_le _
    | cons l ls ih =>
      rw [List.map_cons, List.map_cons, List.flatten_cons, List.length_append, List.length_cons]
      have : (TL.tl (l ++ nlS)).length = l.length + 1 := by
        show ((l ++ nlS).cps.toList).length = _
        rw [str_len, add_len, nl_len]
      rw [this]
      omega
  exact Nat.le_trans (key ls) h2
theorem ok_read_reader {P : Program} {w : World} {K : PySem.W.Frag} {mg : Str → Option Value} {base : Heap} (T : Txt K mg) : FnOk P w K mg base (L2.CX P w) 16 T.f_read_reader T.fd_read_reader ["text"] (spR K preRR (poRR T.c_Reader) (pxRR T)) := by
  refine T.F_read_reader.okX sc_read_reader (fun vs H Q E s => spR_len (fun ds ⟨i, e, _⟩ => by rw [e]; rfl) s) (fun cdv A outer s H vs Q E hr h => ?_)
  refine ⟨_, (pss_cons (ps_asg (pe_call (ok__split T) (hr.mono (by decide)) rfl T.g__split T.k__split T.bd__split .nil passX (pa_cons (pv 0) pa_nil)) (pgTup K (n := 2) rfl (pgs_cons (pg_name (i := 1) sc_read_reader.nd rfl (Or.inl rfl)) (pgs_cons (pg_name (i := 2) sc_read_reader.nd rfl (Or.inl rfl)) pgs_nil))))
    (pss_cons (ps_if (pt_cmpR op_eq (pe_callB (callLen K) (by rfl) T.b_len (by decide +kernel) (pa_cons (pv 1) pa_nil)) pe_int (nomark _)) (pss_one (ps_raise rfl (takes_of rfl rfl rfl rfl) (pmk_x T.xa_InvalidText.x T.xa_InvalidText.iC T.xa_InvalidText.tI (ok_InvalidText_init T) (hr.mono (by decide)) rfl T.g_InvalidText (kxp_InvalidText T) pass0 (pa_cons pe_int pa_nil) pk_nil))) pss_nil)
    (pss_cons (ps_asg (pe_call (ok__read_head T) (hr.mono (by decide)) rfl T.g__read_head T.k__read_head T.bd__read_head .nil passX (pa_cons (pe_ix (ixL K) (pv 1) pe_int (fun _ _ => rfl)) pa_nil)) (pgUnl K (n := 3) rfl (pgs_cons (pg_name (i := 3) sc_read_reader.nd rfl (Or.inl rfl)) (pgs_cons (pg_name (i := 4) sc_read_reader.nd rfl (Or.inl rfl)) (pgs_cons (pg_name (i := 5) sc_read_reader.nd rfl (Or.inl rfl)) pgs_nil)))))
    (pss_cons (ps_set (i := 6) sc_read_reader.nd rfl (Or.inl rfl) (pe_lst pa_nil))
    (pss_cons (ps_for (passes_of rfl) rfl (pi_enumS K (by rfl) T.b_enumerate (pa_cons (pe_slice (slL K) (pv 1) (po_some pe_int) po_none) pa_nil) (pk_cons pe_int pk_nil)) (pgTup K (n := 2) rfl (pgs_cons (pg_name (i := 7) sc_read_reader.nd rfl (Or.inl rfl)) (pgs_cons (pg_name (i := 8) sc_read_reader.nd rfl (Or.inl rfl)) pgs_nil)))
      (pss_cons (ps_set (i := 9) sc_read_reader.nd rfl (Or.inl rfl) (pe_call (ok__state_of T) (hr.mono (by decide)) rfl T.g__state_of T.k__state_of T.bd__state_of .nil pass0 (pa_cons (pv 8) pa_nil)))
      (pss_cons (ps_if (PW.pt (pw_or (pt_cmpR op_isN (pv 9) pe_non (nomark _)) (pw_or (pt_cmpR op_gt (pv 7) (peCval K (pe_glob (v := .ref T.c_Reader) rfl T.g_Reader rfl)) (nomark _)) (pw_or1 (PW.pt (pw_and (pt_cmpR op_gt (pv 7) pe_int (nomark _)) (pw_and1 (pt_cmpR op_ne (pe_callB (callLen K) (by rfl) T.b_len (by decide +kernel) (pa_cons (pe_ix (ixT K) (pv 9) pe_int (fun _ _ => rfl)) pa_nil)) (pe_callB (callLen K) (by rfl) T.b_len (by decide +kernel) (pa_cons (pe_ix (ixT K) (pe_ix (ixL K) (pv 6) pe_int (fun _ _ => rfl)) pe_int (fun _ _ => rfl)) pa_nil)) (nomark _))))))))) (pss_one (ps_raise rfl (takes_of rfl rfl rfl rfl) (pmk_x T.xa_InvalidText.x T.xa_InvalidText.iC T.xa_InvalidText.tI (ok_InvalidText_init T) (hr.mono (by decide)) rfl T.g_InvalidText (kxp_InvalidText T) pass0 (pa_cons (pv 7) pa_nil) pk_nil))) pss_nil)
      (pss_one (ps_expr (pe_bm PySem.F.plainAttrs_list PySem.F.slot_list_append PySem.F.type_list_append (mt_append) (pv 6) (pa_cons (pv 9) pa_nil)))))))
    (pss_cons (ps_if (PW.pt (pw_or (pt_cmpR op_ne (pv 2) pe_str (nomark _)) (pw_or1 (pt_cmpR op_eq (pe_callB (callLen K) (by rfl) T.b_len (by decide +kernel) (pa_cons (pv 6) pa_nil)) pe_int (nomark _))))) (pss_one (ps_raise rfl (takes_of rfl rfl rfl rfl) (pmk_x T.xa_InvalidText.x T.xa_InvalidText.iC T.xa_InvalidText.tI (ok_InvalidText_init T) (hr.mono (by decide)) rfl T.g_InvalidText (kxp_InvalidText T) pass0 (pa_cons (pe_callB (callLen K) (by rfl) T.b_len (by decide +kernel) (pa_cons (pv 1) pa_nil)) pa_nil) pk_nil))) pss_nil)
    (pss_cons (ps_expr (pe_call (ok__check_goals T) (hr.mono (by decide)) rfl T.g__check_goals T.k__check_goals T.bd__check_goals .nil passX (pa_cons (pv 6) pa_nil)))
    (pss_one (ps_ret (pe_makeK T.mk_Reader (ok_Reader_init T) (hr.mono (by decide)) rfl T.g_Reader (kw_Reader_init_inner_order T) pass0 (pa_cons (pv 3) (pa_cons (pv 6) pa_nil)) (pk_cons (pv 4) (pk_cons (pv 5) pk_nil)))))))))))), ?_⟩
  refine enterR h fun M ds pre _ ok => ?_
  obtain ⟨v, rfl, pre⟩ := pre
  obtain ⟨u, cv⟩ := T.cv_Reader_MOST_STATES
  have fail : ∀ (k : Nat), ((isD v "str" = false ∧ k = 0) ∨ ∃ ls rest, v = .str (textOf ls ++ rest) ∧ Pieces ls rest ∧ readR ls rest = .inl k) → pxRR T [v] T.c_InvalidText (gx "line" "InvalidText" (.int (k : Int))) := fun k h => ⟨v, k, rfl, h, rfl, rfl⟩
  have preS : preSp [v] := ⟨v, rfl, pre.imp (fun ⟨ls, rest, e, p, _⟩ => ⟨ls, rest, e, p⟩) id⟩
  refine do_seq (do_asg (js := [1, 2]) (ev_callR ok (ea_cons (ev_var rfl (ea_nil ⟨preS, ?_, ?_⟩)))))
  rotate_left
  · rintro C gs ⟨v', e, hn, rfl, rfl⟩
    obtain rfl := (List.cons.inj e).1
    exact fail 0 (.inl ⟨hn, rfl⟩)
  rintro d ⟨ls, rest, e, pc, rfl⟩
  obtain rfl : v = .str (textOf ls ++ rest) := (List.cons.inj e).1
  have lok : ∀ l ∈ ls, LineOk l := by
    rcases pre with ⟨ls', rest', e', p', h⟩ | ⟨_, h⟩
    · obtain ⟨rfl, rfl⟩ := pieces_inj pc p' (D.str.inj e')
      exact h
    · exact absurd h (by simp [isD, tyName, isTy])
  have bad : ∀ (k : Nat), readR ls rest = .inl k → pxRR T [.str (textOf ls ++ rest)] T.c_InvalidText (gx "line" "InvalidText" (.int (k : Int))) := fun k h => fail k (.inr ⟨ls, rest, rfl, pc, h⟩)
  have hlen := lines_le pc
  clear fail preS pre
  refine tg_tup rfl (tgs_cons (js := [1]) (ks := [2]) (tg_name (tgs_cons (js := [2]) (ks := []) (tg_name (tgs_nil ?_)))))
  refine do_seq (do_if (et_B (ev_op (ev_cb (ea_cons (ev_var rfl (ea_nil (cd_lenK (k := ls.length) (by simp [txsD, lenD]) hlen (ev_int (od_eq_int ⟨_, rfl, fun h => ?_, fun h => do_next ?_⟩))))))))))
  · have h0 := of_decide_eq_true h
    have e : ls = [] := List.length_eq_zero_iff.mp (by omega)
    subst e
    exact do_raise1 ok (ea_cons (ev_int (ea_nil ⟨.int 0, rfl, by simp [plD], by simp [dep], bad 0 rfl⟩)))
  obtain ⟨hdl, ls', rfl⟩ : ∃ a b, ls = a :: b := by
    cases ls with
    | nil => simp at h
    | cons a b => exact ⟨a, b, rfl⟩
  refine do_seq (do_asg (js := [3, 4, 5]) (ev_callR ok (ea_cons (ev_op (ev_var rfl (ev_int (od_ixL txs_at0 (ea_nil ⟨⟨hdl, rfl, lok hdl (by simp)⟩, ?_, ?_⟩))))))))
  rotate_left
  · rintro C gs ⟨l, e, hn, rfl, rfl⟩
    obtain rfl : hdl = l := D.str.inj (List.cons.inj e).1
    refine bad 0 ?_
    unfold readR
    simp only [hn]
  rintro d ⟨l, m, i0, o, e, hP, gm, gi, go, rfl⟩
  obtain rfl : hdl = l := D.str.inj (List.cons.inj e).1
  have hrT : readR (hdl :: ls') rest = match scanS [] 1 ls' with | (some k, _) => .inl k | (none, ss) => if rest ≠ Str.ofString "" ∨ ss = [] then .inl (ls'.length + 1) else match badGoal ss.length 1 ss with | some k => .inl k | none => .inr ⟨m, i0, o, ss⟩ := by
    unfold readR
    simp only [hP]
  refine tg_unl rfl (tgs_cons (js := [3]) (ks := [4, 5]) (tg_name (tgs_cons (js := [4]) (ks := [5]) (tg_name (tgs_cons (js := [5]) (ks := []) (tg_name (tgs_nil ?_)))))))
  refine do_seq (do_own (en_lst (ea_nil ⟨by simp, fun p => ?_⟩)))
  refine do_seq ?_
  refine do_for (js := [7, 8]) (PX := fun l => l = numberedS 1 (txsD ls')) (it_enumS (EvN.ev (en_slL (ev_var rfl (eo_some (ev_int ⟨1, rfl, eo_none ⟨_, rfl, _, rfl, ev_int ⟨1, rfl, by decide, by decide, ?_⟩⟩⟩)))))) (fun l i δ => ∃ ss a b c, δ = [.dat (.str (textOf (hdl :: ls') ++ rest)), .dat (.lst (txsD (hdl :: ls'))), .dat (.str rest), .dat (.str m), .dat (.str i0), .dat (.str o), .own p (.lst (stsD ss)), a, b, c] ∧ SoS ss i ∧ scanS [] 1 ls' = scanS ss (i + 1) (ls'.drop i)) (fun l e => ⟨[], .un, .un, .un, rfl, ⟨rfl, Nat.zero_le _, (fun r h => (by cases h)), (fun r h => (by cases h))⟩, rfl⟩) ?_ ?_
  · exact congrArg _ cut_tail
  · rintro l i d δ rfl hi ⟨ss, a, b, c, rfl, so, hsc⟩
    have hlt : i < ls'.length := by
      have := (List.getElem?_eq_some_iff.mp hi).1
      rwa [numberedS_len, txsD, List.length_map] at this
    obtain ⟨x, hx⟩ : ∃ x, ls'[i]? = some x := ⟨ls'[i], List.getElem?_eq_getElem hlt⟩
    have e0 : (txsD ls')[i]? = some (D.str x) := by
      unfold txsD
      rw [List.getElem?_map, hx]
      rfl
    rw [numberedS_get e0] at hi
    obtain rfl := Option.some.inj hi
    have hdr : ls'.drop i = x :: ls'.drop (i + 1) := by
      rw [List.drop_eq_getElem_cons hlt]
      congr 1
      exact Option.some.inj ((List.getElem?_eq_getElem hlt).symm.trans hx)
    rw [hdr] at hsc
    have sn := so.n
    have sz := so.z
    have fail : scanS ss (i + 1) (x :: ls'.drop (i + 1)) = (some (i + 1), ss) → ∀ {ta : TA} {δ : List SD} {R : PD}, Ev ⟨K, none, M, H, E, 0, []⟩ (tVar 7) δ (· = .int (1 + (i : Nat))) → Do ⟨K, none, M, H, E, 0, []⟩ (fun _ σ H => tMkX T.c_InvalidText 1 0 (spY K T.c_InvalidText (preCp 4) (postX1 "InvalidText" "line")) gx1 (tCons (tVar 7) tNil) tNil σ H fun cls d H' => E cls d H') δ R := fun hb {ta δ R} h7 => by
      refine do_raise1 ok (ea_cons (h7.imp fun d e => ea_nil ⟨.int (((i + 1 : Nat) : Int)), by rw [e]; congr 2; omega, by simp [plD], by simp [dep], bad (i + 1) ?_⟩))
      rw [hrT, hsc, hb]
    refine tg_tup rfl (tgs_cons (js := [7]) (ks := [8]) (tg_name (tgs_cons (js := [8]) (ks := []) (tg_name (tgs_nil ?_)))))
    refine do_seq (do_set (ev_call (ea_cons (ev_var rfl (ea_nil ⟨⟨x, rfl, lok x (List.mem_cons_of_mem _ (List.mem_of_getElem? hx))⟩, ?_⟩)))))
    rintro d ⟨x', e, hrow⟩
    obtain rfl : x = x' := D.str.inj (List.cons.inj e).1
    rcases hrow with ⟨hn, rfl⟩ | ⟨s, hs, os, rfl⟩
    · refine do_seq (do_if (et_or (et_B (ev_op (ev_var rfl (ev_non (ud_isN ⟨_, rfl, (fun h => nomatch h), fun _ => ⟨fun _ => ?_, fun h => nomatch h⟩⟩)))))))
      refine fail ?_ (ta := tNil) (ev_var rfl rfl)
      unfold scanS
      simp only [hn]
    have hscan : scanS ss (i + 1) (x :: ls'.drop (i + 1)) = if misfit ss (i + 1) s = true then (some (i + 1), ss) else scanS (ss ++ [s]) (i + 1 + 1) (ls'.drop (i + 1)) := by
      rw [scanS]
      simp only [hs]
    have sl := os.l4
    refine do_seq (do_if (et_or (et_B (ev_op (ev_var rfl (ev_non (ud_isN ⟨_, rfl, fun _ => ?_, fun h => nomatch h⟩)))))))
    refine et_or (et_B (ev_op (ev_var rfl (ev_cval T.cr_Reader cv (od_bl ⟨_, rfl, fun hm => ?_, fun hm => ?_⟩) (ev_adr rfl)))))
    rotate_left
    · refine ⟨fun _ => fail ?_ (ta := tNil) (ev_var rfl rfl), fun h => nomatch h⟩
      have := of_decide_eq_true hm
      rw [hscan, if_pos (by unfold misfit; rw [decide_eq_true (by omega)]; rfl)]
    have hm := of_decide_eq_false hm
    have more : misfit ss (i + 1) s = false → SoS (ss ++ [s]) (i + 1) := fun hf => by
      refine ⟨by simp [sn], by simp; omega, fun t ht => ?_, fun t ht => ?_⟩
      · rcases List.mem_append.mp ht with ht | ht
        · exact so.ok t ht
        · rw [List.mem_singleton.mp ht]
          exact os
      · cases ss with
        | nil =>
          have ht : t = s := by simpa using ht
          rw [ht]
          rfl
        | cons s0 r =>
          rcases List.mem_append.mp ht with ht | ht
          · exact so.al t ht
          · rw [List.mem_singleton.mp ht]
            unfold misfit at hf
            simp only [Bool.or_eq_false_iff, decide_eq_false_iff_not] at hf
            exact Decidable.not_not.mp hf.2
    refine et_and (et_B (ev_op (ev_var rfl (ev_int (od_bl ⟨_, rfl, fun h => ?_, fun h => ⟨(fun h => nomatch h), fun _ => do_next ?_⟩⟩)))))
    have hi1 : 1 ≤ i := by
      have := of_decide_eq_true h
      omega
    obtain ⟨s0, r, rfl⟩ : ∃ s0 r, ss = s0 :: r := by
      cases ss with
      | nil => simp at sn; omega
      | cons a b => exact ⟨_, _, rfl⟩
    have o0 := (so.ok s0 (by simp)).l4
    have hl0 : atI (stsD (s0 :: r)) 0 = some (stD s0) := atI_nat (j := 0) rfl
    refine et_B (ev_op (ev_cb (ea_cons (ev_op (ev_var rfl (ev_int (od_ixT (d := .tup (s.2.1.map .int)) rfl (ea_nil (cd_lenK (k := s.2.1.length) (by simp [lenD]) (by omega) ?_)))))))))
    refine ev_cb (ea_cons (ev_op (ev_ixO rfl (ev_int ⟨0, stD s0, rfl, hl0, ev_int (od_ixT (d := .tup (s0.2.1.map .int)) rfl (ea_nil (cd_lenK (k := s0.2.1.length) (by simp [lenD]) (by omega) (od_ne_int ⟨_, rfl, fun hne => ?_, fun hne => do_next ?_⟩))))⟩))))
    · refine fail ?_ (ta := tNil) (ev_var rfl rfl)
      have hne : ¬ (s.2.1.length : Int) = s0.2.1.length := by simpa using hne
      rw [hscan, if_pos (by unfold misfit; show (_ || decide _) = true; rw [decide_eq_true (p := s.2.1.length ≠ s0.2.1.length) (by omega)]; simp)]
    have hf : misfit (s0 :: r) (i + 1) s = false := by
      have hne : (s.2.1.length : Int) = s0.2.1.length := by simpa using hne
      unfold misfit
      show (_ || decide _) = false
      rw [decide_eq_false (by omega), decide_eq_false (p := s.2.1.length ≠ s0.2.1.length) (by simp; omega)]
      rfl
    rotate_left
    have hf : misfit ss (i + 1) s = false := by
      have hi0 : i = 0 := by
        have := of_decide_eq_false h
        omega
      have e : ss = [] := List.length_eq_zero_iff.mp (by omega)
      subst e
      unfold misfit
      rw [decide_eq_false (by omega)]
      rfl
    all_goals
      refine do_append (i := 6) (p := p) rfl (by rw [stsD_len]; omega) (ev_var rfl ⟨_, .dat (.int (1 + (i : Nat))), .dat (.str x), .dat (stD s), ?_, more hf, ?_⟩)
      · show _ = [_, _, _, _, _, _, SD.own p (.lst (stsD (_ ++ [s]))), _, _, _]
        simp [stsD]
      · rw [hsc, hscan, if_neg (by rw [hf]; simp)]
  · rintro l δ rfl ⟨ss, a, b, c, rfl, so, hsc⟩
    have e : ls'.drop (numberedS 1 (txsD ls')).length = [] := by
      refine List.drop_eq_nil_of_le ?_
      rw [numberedS_len, txsD, List.length_map]
      exact Nat.le_refl _
    rw [e] at hsc
    have hsc : scanS [] 1 ls' = (none, ss) := hsc
    rw [hsc] at hrT
    have sz := so.z
    have over : (rest ≠ Str.ofString "" ∨ ss = []) → ∀ {ta : TA} {δ : List SD} {R : PD}, δ[1]? = some (.dat (.lst (txsD (hdl :: ls')))) → Do ⟨K, none, M, H, E, 0, []⟩ (fun _ σ H => tMkX T.c_InvalidText 1 0 (spY K T.c_InvalidText (preCp 4) (postX1 "InvalidText" "line")) gx1 (tCons (tCB (rLenK K) (tCons (tVar 1) tNil)) tNil) tNil σ H fun cls d H' => E cls d H') δ R := fun hb {ta δ R} h1 => by
      refine do_raise1 ok (ea_cons (ev_cb (ea_cons (ev_var h1 (ea_nil (cd_lenK (k := ls'.length + 1) (by simp [txsD, lenD]) hlen (ea_nil ⟨.int ((ls'.length + 1 : Nat) : Int), rfl, by simp [plD], by simp [dep], bad (ls'.length + 1) ?_⟩)))))))
      rw [hrT]
      show (if rest ≠ Str.ofString "" ∨ ss = [] then _ else _) = _
      rw [if_pos hb]
    refine do_seq (do_if (et_or (et_B (ev_op (ev_var rfl (ev_str (od_ne_str ⟨_, rfl, fun hne => ?_, fun hne => ⟨fun _ => over (.inl (by simpa using hne)) (ta := tNil) rfl, fun h => nomatch h⟩⟩)))))))
    have hr0 : rest = Str.ofString "" := by simpa using hne
    refine et_B (ev_op (ev_lenO rfl (ev_int (od_eq_int ⟨_, rfl, fun h => over (.inr ?_) (ta := tNil) rfl, fun h => do_next ?_⟩))))
    · have := of_decide_eq_true h
      rw [stsD_len] at this
      exact List.length_eq_zero_iff.mp (by omega)
    have hne : ss ≠ [] := fun e => by
      have := of_decide_eq_false h
      rw [e] at this
      exact this rfl
    have hrT : readR (hdl :: ls') rest = match badGoal ss.length 1 ss with | some k => .inl k | none => .inr ⟨m, i0, o, ss⟩ := by
      rw [hrT]
      show (if rest ≠ Str.ofString "" ∨ ss = [] then _ else _) = _
      rw [if_neg (by rw [not_or]; exact ⟨fun h => h hr0, hne⟩)]
    refine do_freeze (i := 6) rfl (do_seq (do_drop (ev_callR ok (ea_cons (ev_var rfl (ea_nil ⟨⟨ss, rfl, by omega⟩, fun d hd => ?_, fun C gs hx => ?_⟩))))))
    · obtain ⟨ss', e, hbg, rfl⟩ := hd
      obtain rfl := stsD_inj (D.lst.inj (List.cons.inj e).1)
      rw [hbg] at hrT
      have g : GoodRd ⟨m, i0, o, ss⟩ := ⟨gm, gi, go, so.good hne hbg⟩
      refine do_ret (ev_makeMK (gD := gkw_Reader_init_inner_order) (krkw_Reader_init_inner_order K) (ea_cons (ev_var rfl (ea_cons (ev_var rfl (ea_nil (ea_cons (ev_var rfl (ea_cons (ev_var rfl (ea_nil ⟨rfl, rfl, [.str m], .lst (stsD ss), stsD ss, [.str i0, .str o], fun x => rfl, .inl rfl, ⟨⟨m, i0, o, ss⟩, rfl, rfl, rfl, g⟩, fun fs hf => ?_⟩)))))))))))
      obtain ⟨q, e1, e2, e3, _, rfl⟩ := hf
      obtain rfl : q = ⟨m, i0, o, ss⟩ := rd_eta e1 e2 e3
      exact ⟨_, rest, _, rfl, pc, hrT, g, rfl⟩
    · obtain ⟨ss', k, e, hbg, rfl, rfl⟩ := hx
      obtain rfl := stsD_inj (D.lst.inj (List.cons.inj e).1)
      rw [hbg] at hrT
      exact bad k hrT

end Pf

set_option maxHeartbeats 16000000
namespace Pf
open PySem L2 PfL RZ
local macro_rules | `(tactic| walk_at "ev") => `(tactic| first
  | ((with_reducible refine' ev_var ?h ?_); (case h => rfl))
  | with_reducible refine ev_int ?_
  | with_reducible refine ev_bl ?_
  | with_reducible refine ev_str ?_
  | with_reducible refine ev_non ?_
  | with_reducible refine ev_ty ?_
  | with_reducible refine ev_op ?_
  | with_reducible refine ev_un ?_
  | with_reducible refine ev_chain ?_
  | with_reducible refine ev_if ?_
  | with_reducible refine ev_and ?_
  | with_reducible refine ev_or ?_
  | with_reducible refine ev_not ?_
  | with_reducible refine ev_lst ?_
  | with_reducible refine ev_tup ?_
  | with_reducible refine ea_nil ?_
  | with_reducible refine ea_cons ?_
  | with_reducible refine ev_cb ?_
  | with_reducible refine et_test ?_
  | with_reducible refine et_B ?_
  | with_reducible refine et_and ?_
  | with_reducible refine et_or ?_
  | with_reducible refine et_not ?_
  | with_reducible refine et_yes ?_
  | with_reducible refine eo_none ?_
  | with_reducible refine eo_some ?_
  | with_reducible refine ev_slS ?_
  | with_reducible refine od_int ?_
  | with_reducible refine od_bl ?_
  | with_reducible refine od_eq_int ?_
  | with_reducible refine od_ne_int ?_
  | with_reducible refine od_eq_bl ?_
  | with_reducible refine od_ne_bl ?_
  | with_reducible refine od_eq_str ?_
  | with_reducible refine od_ne_str ?_
  | with_reducible refine od_leS ?_
  | with_reducible refine ud_isN ?_
  | with_reducible refine ud_notN ?_
  | with_reducible refine do_seq ?_
  | with_reducible refine do_set ?_
  | with_reducible refine do_ret ?_
  | with_reducible refine do_retN ?_
  | with_reducible refine do_if ?_
  | with_reducible refine do_next ?_
  | with_reducible refine tg_name ?_
  | with_reducible refine tgs_nil ?_
  | with_reducible refine tgs_cons ?_)
/-! ### what the texts of the law come to -/
structure OddL (l : Str) : Prop where
  fr : 10 ∉ TL.tl l
  ok : LineOk l
def oddB (l : Str) : Bool := decide (10 ∉ TL.tl l) && (decide (l.length ≤ 1000) && (decide ((Txt.split l (Str.ofString " ")).length ≤ 1000) && (Txt.split l (Str.ofString " ")).all fun x => decide (x.length ≤ 1000)))
theorem oddL_by {l : Str} (h : oddB l = true) : OddL l := by
  unfold oddB at h
  simp only [Bool.and_eq_true, decide_eq_true_eq, List.all_eq_true] at h
  exact ⟨h.1, ⟨h.2.1, h.2.2.1, h.2.2.2⟩⟩
theorem app_nil (x : Str) : x ++ Str.ofString "" = x := by
  refine TL.ext_tl ?_
  rw [TL.tl_append, em_is, List.append_nil]
theorem em_free : 10 ∉ TL.tl (Str.ofString "") := by rw [em_is]; simp
theorem em_z : (Str.ofString "").length ≤ 1000 := by decide +kernel
theorem x_free : 10 ∉ TL.tl (Str.ofString "x") := by decide +kernel
theorem x_z : (Str.ofString "x").length ≤ 1000 := by decide +kernel
theorem x_ne : Str.ofString "x" ≠ Str.ofString "" := by decide +kernel
theorem pieces_of {ls : List Str} {rest : Str} (h : ∀ l ∈ ls, OddL l) (hn : ls.length ≤ 50) (hr : 10 ∉ TL.tl rest) (hz : rest.length ≤ 1000) : Pieces ls rest := by
  refine ⟨fun l hl => (h l hl).fr, hr, ?_⟩
  have := text_len (ls := ls) (k := 1000) fun l hl => (h l hl).ok.z
  rw [add_len]
  have : 1001 * ls.length ≤ 1001 * 50 := Nat.mul_le_mul_left _ hn
  omega
/-- a line of words that are short and free of spaces -/
theorem odd_words {ws : List Str} (ne : ws ≠ []) (h : ∀ w ∈ ws, w.length ≤ 40 ∧ 10 ∉ TL.tl w ∧ 32 ∉ TL.tl w) (hn : ws.length ≤ 10) : OddL (lineOf ws) ∧ Txt.split (lineOf ws) (Str.ofString " ") = ws := by
  have e := split_words ne fun w hw => (h w hw).2.2
  refine ⟨⟨line_free fun w hw => (h w hw).2.1, ?_, by rw [e]; omega, fun x hx => by rw [e] at hx; have := (h x hx).1; omega⟩, e⟩
  have h1 := join_len (Str.ofString " ") ws
  have h2 := sum_le (k := 40) (zs := ws) fun w hw => (h w hw).1
  have e : (lineOf ws).length = (Txt.join (Str.ofString " ") ws).length := rfl
  rw [e]
  rw [sp_len] at h1
  omega
def Word (w : Str) : Prop := w.length ≤ 40 ∧ 10 ∉ TL.tl w ∧ 32 ∉ TL.tl w
theorem word_num {i : Int} (h : i.natAbs < 10 ^ 20) : Word (numS i) := ⟨Nat.le_trans (numS_len h).2 (by decide), numS_free h (by omega), numS_free h (by omega)⟩
theorem word_goal {o : Option Int} (h : ∀ i, o = some i → i.natAbs < 10 ^ 20) : Word (goalS o) := ⟨Nat.le_trans (goal_21 h) (by decide), goal_low h (.inl rfl), goal_low h (.inr rfl)⟩
def wordB (w : Str) : Bool := decide (w.length ≤ 40) && (decide (10 ∉ TL.tl w) && decide (32 ∉ TL.tl w))
theorem word_by {w : Str} (h : wordB w = true) : Word w := by
  unfold wordB at h
  simp only [Bool.and_eq_true, decide_eq_true_eq] at h
  exact ⟨h.1, h.2.1, h.2.2⟩
/-- the words of a state with these goals -/
def wordsG (sz : Int) (as : List Int) (g1 g2 : Str) : List Str := Str.ofString "state" :: numS sz :: g1 :: g2 :: as.map numS
theorem wordsG_ok {sz : Int} {as : List Int} {g1 g2 : Str} (h0 : 1 ≤ sz) (h9 : sz ≤ 9) (l4 : as.length ≤ 4) (ha : ∀ a ∈ as, 1 ≤ a ∧ a ≤ 9) (w1 : Word g1) (w2 : Word g2) : OddL (lineOf (wordsG sz as g1 g2)) ∧ Txt.split (lineOf (wordsG sz as g1 g2)) (Str.ofString " ") = wordsG sz as g1 g2 := by
  refine odd_words (by simp [wordsG]) (fun w hw => ?_) (by simp [wordsG]; omega)
  unfold wordsG at hw
  rcases List.mem_cons.mp hw with rfl | hw
  · exact word_by (by decide +kernel)
  rcases List.mem_cons.mp hw with rfl | hw
  · exact word_num (by omega)
  rcases List.mem_cons.mp hw with rfl | hw
  · exact w1
  rcases List.mem_cons.mp hw with rfl | hw
  · exact w2
  · obtain ⟨a, hm, rfl⟩ := List.mem_map.mp hw
    have := ha a hm
    exact word_num (by omega)
theorem st_line {sz : Int} {as : List Int} {g1 g2 : Str} (h0 : 1 ≤ sz) (h9 : sz ≤ 9) (l0 : 1 ≤ as.length) (l4 : as.length ≤ 4) (ha : ∀ a ∈ as, 1 ≤ a ∧ a ≤ 9) (w1 : Word g1) (w2 : Word g2) : stP (lineOf (wordsG sz as g1 g2)) = if (goalOk g1 && goalOk g2) = true then some (sz, as, numOf g1, numOf g2) else none := by
  have hs := (wordsG_ok h0 h9 l4 ha w1 w2).2
  obtain ⟨a, r, rfl⟩ : ∃ a r, as = a :: r := by
    cases as with
    | nil => simp at l0
    | cons a r => exact ⟨a, r, rfl⟩
  have hno : noL (numS a :: r.map numS) = (a :: r).map D.int := by
    show ((a :: r).map numS).map _ = _
    rw [List.map_map]
    refine List.map_congr_left fun x hx => ?_
    have := ha x hx
    show noD (numOf (numS x)) = _
    rw [numOf_numS (by omega)]
    rfl
  have hst : isSt (.tup [noD (numOf (numS sz)), .tup (noL (numS a :: r.map numS)), .non, .non]) 1 = true := by
    rw [hno, numOf_numS (by omega)]
    have := isSt_yes (s := (sz, a :: r, none, none)) (n := 1) (P := (a :: r).length) l0 l4 ⟨h0, h9, rfl, ha, fun i e => (nomatch e), fun i e => (nomatch e)⟩
    exact this
  unfold stP stQ
  rw [hs]
  show (if Str.ofString "state" = Str.ofString "state" then if (goalOk g1 && goalOk g2) = true then if isSt (.tup [noD (numOf (numS sz)), .tup (noL (numS a :: r.map numS)), .non, .non]) 1 = true then some (D.tup [noD (numOf (numS sz)), .tup (noL (numS a :: r.map numS)), noD (numOf g1), noD (numOf g2)]) else none else none else none : Option D).map unSt = _
  rw [if_pos rfl, if_pos hst]
  by_cases hg : (goalOk g1 && goalOk g2) = true
  · rw [if_pos hg, if_pos hg, hno, numOf_numS (by omega), no_opt, no_opt, no_opt]
    show some (unSt (stD (sz, a :: r, numOf g1, numOf g2))) = _
    rw [unSt_of]
  · rw [if_neg hg, if_neg hg]
    rfl
theorem goalOk_goal {o : Option Int} (h : ∀ i, o = some i → i.natAbs < 10 ^ 20) : goalOk (goalS o) = true := by
  unfold goalOk
  cases o with
  | none => rw [decide_eq_true (show goalS none = Str.ofString "-" from rfl)]; rfl
  | some i =>
    rw [numOf_goal h]
    simp
def RL (s : StT) : Str := lineOf (wordsS s)
theorem good_line {n : Int} {P : Nat} {s : StT} (p1 : 1 ≤ P) (p4 : P ≤ 4) (hn : n ≤ 6) (g : GoodSt n P s) : OddL (RL s) ∧ stP (RL s) = some s := by
  obtain ⟨_, s2, s3, _, _⟩ := g.small hn p4
  obtain ⟨sz, as, fu, th⟩ := s
  have al : as.length = P := g.al
  have w1 := word_goal s2
  have w2 := word_goal s3
  have l0 : 1 ≤ as.length := by omega
  have l4 : as.length ≤ 4 := by omega
  have e := st_line (sz := sz) (as := as) (g1 := goalS fu) (g2 := goalS th) g.s0 g.s1 l0 l4 g.as w1 w2
  rw [goalOk_goal s2, goalOk_goal s3] at e
  refine ⟨(wordsG_ok (sz := sz) (as := as) (g1 := goalS fu) (g2 := goalS th) g.s0 g.s1 l4 g.as w1 w2).1, ?_⟩
  have e : stP (RL (sz, as, fu, th)) = if (true && true) = true then some (sz, as, numOf (goalS fu), numOf (goalS th)) else none := e
  rw [e, numOf_goal s2, numOf_goal s3]
  rfl
theorem headQ_line {r : RdT} (g : GoodRd r) : OddL (lineOf (headR r)) ∧ headQ (lineOf (headR r)) = some (r.m, r.i, r.o) := by
  have h := odd_words (ws := headR r) (by simp [headR]) (fun w hw => ⟨Nat.le_trans ((hd_21 g).1 w hw) (by decide), hd_free g (.inl rfl) w hw, hd_free g (.inr rfl) w hw⟩) (by simp [headR])
  refine ⟨h.1, ?_⟩
  unfold headQ
  rw [h.2]
  show (if Str.ofString "reader" = Str.ofString "reader" then if r.m ∈ marks then if r.i ∈ inners then if r.o ∈ orders then some (r.m, r.i, r.o) else none else none else none else none) = _
  rw [if_pos rfl, if_pos g.m, if_pos g.i, if_pos g.o]
/-- lines with the states that they are -/
abbrev PS := Str × StT
def Fit (P : Nat) (p : PS) : Prop := OddL p.1 ∧ stP p.1 = some p.2 ∧ p.2.2.1.length = P
theorem misfit_no {ss : List StT} {k P : Nat} {s : StT} (hk : k ≤ 6) (h : ∀ t ∈ ss, t.2.1.length = P) (hs : s.2.1.length = P) : misfit ss k s = false := by
  unfold misfit
  rw [decide_eq_false (by omega)]
  cases ss with
  | nil => rfl
  | cons t r =>
    show (false || decide _) = false
    rw [decide_eq_false (by rw [hs, h t (by simp)]; exact fun h => h rfl)]
    rfl
theorem scan_fit {P : Nat} : ∀ {ps : List PS} {ss : List StT} {k : Nat} {more : List Str}, (∀ p ∈ ps, Fit P p) → (∀ t ∈ ss, t.2.1.length = P) → ss.length + 1 = k → ss.length + ps.length ≤ 6 → scanS ss k (ps.map Prod.fst ++ more) = scanS (ss ++ ps.map Prod.snd) (k + ps.length) more
  | [], ss, k, more, _, _, _, _ => by rw [List.map_nil, List.map_nil, List.append_nil]; rfl
  | p :: ps, ss, k, more, h, hs, hk, hz => by
    obtain ⟨_, e, hl⟩ := h p (by simp)
    simp only [List.length_cons] at hz
    show scanS ss k (p.1 :: (ps.map Prod.fst ++ more)) = _
    rw [scanS]
    simp only [e]
    rw [misfit_no (by omega) hs hl]
    show scanS (ss ++ [p.2]) (k + 1) (ps.map Prod.fst ++ more) = _
    rw [scan_fit (fun q hq => h q (List.mem_cons_of_mem _ hq)) (fun t ht => by
      rcases List.mem_append.mp ht with ht | ht
      · exact hs t ht
      · rw [List.mem_singleton.mp ht]
        exact hl) (by simp; omega) (by simp; omega)]
    simp only [List.map_cons, List.append_assoc, List.singleton_append, List.length_cons]
    rw [show k + 1 + ps.length = k + (ps.length + 1) by omega]
theorem scan_none {ss : List StT} {k : Nat} {l : Str} {more : List Str} (h : stP l = none) : scanS ss k (l :: more) = (some k, ss) := by
  rw [scanS]
  simp only [h]
theorem scan_misfit {ss : List StT} {k : Nat} {l : Str} {s : StT} {more : List Str} (h : stP l = some s) (hm : misfit ss k s = true) : scanS ss k (l :: more) = (some k, ss) := by
  rw [scanS]
  simp only [h]
  rw [if_pos hm]
section
variable {r : RdT} {P : Nat} {ps : List PS} {rest : Str}
theorem readR_bad (g : GoodRd r) (h : ∀ p ∈ ps, Fit P p) (hz : ps.length ≤ 6) {l : Str} {more : List Str} (hl : stP l = none ∨ ∃ s, stP l = some s ∧ misfit (ps.map Prod.snd) (ps.length + 1) s = true) : readR (lineOf (headR r) :: (ps.map Prod.fst ++ l :: more)) rest = .inl (ps.length + 1) := by
  have e := scan_fit (ss := []) (k := 1) (more := l :: more) h (fun t h => (by cases h)) rfl (by simpa using hz)
  rw [List.nil_append, Nat.add_comm 1] at e
  have e2 : scanS (ps.map Prod.snd) (ps.length + 1) (l :: more) = (some (ps.length + 1), ps.map Prod.snd) := by
    rcases hl with hl | ⟨s, hl, hm⟩
    · exact scan_none hl
    · exact scan_misfit hl hm
  unfold readR
  simp only [(headQ_line g).2]
  rw [e, e2]
theorem readR_fit (g : GoodRd r) (h : ∀ p ∈ ps, Fit P p) (hz : ps.length ≤ 6) : readR (lineOf (headR r) :: ps.map Prod.fst) rest = if rest ≠ Str.ofString "" ∨ ps = [] then .inl (ps.length + 1) else (match badGoal ps.length 1 (ps.map Prod.snd) with | some k => .inl k | none => .inr ⟨r.m, r.i, r.o, ps.map Prod.snd⟩ : Sum Nat RdT) := by
  have e := scan_fit (ss := []) (k := 1) (more := []) h (fun t h => (by cases h)) rfl (by simpa using hz)
  rw [List.nil_append, List.append_nil] at e
  unfold readR
  simp only [(headQ_line g).2]
  rw [e]
  show (if rest ≠ Str.ofString "" ∨ ps.map Prod.snd = [] then Sum.inl ((ps.map Prod.fst).length + 1) else (match badGoal (ps.map Prod.snd).length 1 (ps.map Prod.snd) with | some k => .inl k | none => .inr ⟨r.m, r.i, r.o, ps.map Prod.snd⟩ : Sum Nat RdT) : Sum Nat RdT) = _
  rw [List.length_map, List.length_map]
  simp only [List.map_eq_nil_iff]
end
theorem readR_head {h : Str} (hh : headQ h = none) {ls : List Str} {rest : Str} : readR (h :: ls) rest = .inl 0 := by
  unfold readR
  simp only [hh]
theorem badGoal_at {n : Int} : ∀ {xs : List StT} {k : Nat} {s : StT} {more : List StT}, (∀ t ∈ xs, goalIn n t.2.2.1 = true ∧ goalIn n t.2.2.2 = true) → (goalIn n s.2.2.1 && goalIn n s.2.2.2) = false → badGoal n k (xs ++ s :: more) = some (k + xs.length)
  | [], k, s, more, _, h => by
    show (if (goalIn n s.2.2.1 && goalIn n s.2.2.2) = true then _ else some k) = _
    rw [if_neg (by rw [h]; simp)]
    rfl
  | x :: xs, k, s, more, hx, h => by
    have h1 := hx x (by simp)
    show (if (goalIn n x.2.2.1 && goalIn n x.2.2.2) = true then badGoal n (k + 1) (xs ++ s :: more) else some k) = _
    rw [if_pos (by rw [h1.1, h1.2]; rfl), badGoal_at (fun t ht => hx t (List.mem_cons_of_mem _ ht)) h, List.length_cons]
    congr 1
    omega
theorem badGoal_no {n : Int} : ∀ {xs : List StT} {k : Nat}, (∀ t ∈ xs, goalIn n t.2.2.1 = true ∧ goalIn n t.2.2.2 = true) → badGoal n k xs = none
  | [], _, _ => rfl
  | x :: xs, k, hx => by
    have h1 := hx x (by simp)
    show (if (goalIn n x.2.2.1 && goalIn n x.2.2.2) = true then badGoal n (k + 1) xs else some k) = _
    rw [if_pos (by rw [h1.1, h1.2]; rfl), badGoal_no fun t ht => hx t (List.mem_cons_of_mem _ ht)]
theorem goalIn_opt {n m : Int} {o : Option Int} (h : OptIn n o) (hm : n ≤ m) : goalIn m o = true := by
  cases o with
  | none => rfl
  | some i =>
    have := h i rfl
    simp [goalIn]
    omega
/-- what comes of a text: the line that is told, or a reader with so many states -/
def TextR (t : Str) (o : Sum Int Int) : Prop := ∃ ls rest, t = textOf ls ++ rest ∧ Pieces ls rest ∧ (∀ l ∈ ls, LineOk l) ∧ match o with | .inl k => ∃ n : Nat, k = n ∧ readR ls rest = .inl n | .inr m => ∃ r : RdT, readR ls rest = .inr r ∧ (r.ss.length : Int) = m
theorem TextR.bare {ls : List Str} {o : Sum Int Int} (h : TextR (textOf ls ++ Str.ofString "") o) : TextR (textOf ls) o := by
  rw [app_nil] at h
  exact h
theorem TextR.of {ls : List Str} {rest : Str} (h : ∀ l ∈ ls, OddL l) (hn : ls.length ≤ 50) (hr : 10 ∉ TL.tl rest) (hz : rest.length ≤ 1000) {o : Sum Int Int} (e : match o with | .inl k => ∃ n : Nat, k = n ∧ readR ls rest = .inl n | .inr m => ∃ r : RdT, readR ls rest = .inr r ∧ (r.ss.length : Int) = m) : TextR (textOf ls ++ rest) o :=
  ⟨ls, rest, rfl, pieces_of h hn hr hz, fun l hl => (h l hl).ok, e⟩
theorem oddLs {r : RdT} (g : GoodRd r) {ls : List Str} (h : ∀ l ∈ ls, OddL l) : ∀ l ∈ lineOf (headR r) :: ls, OddL l := fun l hl => by
  rcases List.mem_cons.mp hl with rfl | hl
  · exact (headQ_line g).1
  · exact h l hl
theorem fit_odd {P : Nat} {ps : List PS} (h : ∀ p ∈ ps, Fit P p) : ∀ l ∈ ps.map Prod.fst, OddL l := fun l hl => by
  obtain ⟨p, hp, rfl⟩ := List.mem_map.mp hl
  exact (h p hp).1
def baseP (r : RdT) : List PS := r.ss.map fun s => (RL s, s)
theorem base_fit {r : RdT} (g : GoodRd r) : ∀ p ∈ baseP r, Fit (partsOf r.ss) p := fun p hp => by
  obtain ⟨s, hs, rfl⟩ := List.mem_map.mp hp
  have n6 := g.ss.n6
  have gs := g.ss.st s hs
  have h := good_line g.ss.p0 g.ss.p4 (by omega) gs
  exact ⟨h.1, h.2, gs.al⟩
theorem base_fst (r : RdT) : (baseP r).map Prod.fst = r.ss.map RL := by simp [baseP, List.map_map, Function.comp_def]
theorem base_snd (r : RdT) : (baseP r).map Prod.snd = r.ss := by simp [baseP, List.map_map, Function.comp_def]
theorem base_len (r : RdT) : (baseP r).length = r.ss.length := by simp [baseP]
theorem base_goals {r : RdT} (g : GoodRd r) {n : Int} (hn : (r.ss.length : Int) ≤ n) : ∀ t ∈ r.ss, goalIn n t.2.2.1 = true ∧ goalIn n t.2.2.2 = true := fun t ht => by
  have gs := g.ss.st t ht
  exact ⟨goalIn_opt gs.fu hn, goalIn_opt gs.th hn⟩
theorem linesR_eq (r : RdT) : linesR r = lineOf (headR r) :: (baseP r).map Prod.fst := by
  rw [base_fst]
  rfl

end Pf

set_option maxHeartbeats 16000000
namespace Pf
open PySem L2 PfL RZ
local macro_rules | `(tactic| walk_at "ev") => `(tactic| first
  | ((with_reducible refine' ev_var ?h ?_); (case h => rfl))
  | with_reducible refine ev_int ?_
  | with_reducible refine ev_bl ?_
  | with_reducible refine ev_str ?_
  | with_reducible refine ev_non ?_
  | with_reducible refine ev_ty ?_
  | with_reducible refine ev_op ?_
  | with_reducible refine ev_un ?_
  | with_reducible refine ev_chain ?_
  | with_reducible refine ev_if ?_
  | with_reducible refine ev_and ?_
  | with_reducible refine ev_or ?_
  | with_reducible refine ev_not ?_
  | with_reducible refine ev_lst ?_
  | with_reducible refine ev_tup ?_
  | with_reducible refine ea_nil ?_
  | with_reducible refine ea_cons ?_
  | with_reducible refine ev_cb ?_
  | with_reducible refine et_test ?_
  | with_reducible refine et_B ?_
  | with_reducible refine et_and ?_
  | with_reducible refine et_or ?_
  | with_reducible refine et_not ?_
  | with_reducible refine et_yes ?_
  | with_reducible refine eo_none ?_
  | with_reducible refine eo_some ?_
  | with_reducible refine ev_slS ?_
  | with_reducible refine od_int ?_
  | with_reducible refine od_bl ?_
  | with_reducible refine od_eq_int ?_
  | with_reducible refine od_ne_int ?_
  | with_reducible refine od_eq_bl ?_
  | with_reducible refine od_ne_bl ?_
  | with_reducible refine od_eq_str ?_
  | with_reducible refine od_ne_str ?_
  | with_reducible refine od_leS ?_
  | with_reducible refine ud_isN ?_
  | with_reducible refine ud_notN ?_
  | with_reducible refine do_seq ?_
  | with_reducible refine do_set ?_
  | with_reducible refine do_ret ?_
  | with_reducible refine do_retN ?_
  | with_reducible refine do_if ?_
  | with_reducible refine do_next ?_
  | with_reducible refine tg_name ?_
  | with_reducible refine tgs_nil ?_
  | with_reducible refine tgs_cons ?_)
/-! ### lists of texts in a law -/
theorem err_of {K : PySem.W.Frag} {ct : List Value} {C : Addr} {f n : Str} {x : D} (ex : PySem.W.exmAny K (.ref C) ct = some true) (is : L2.ExcC K C) (no : ∀ f ∈ errNames, PySem.W.findIn K (.ref C) f = some none) (h : (("code" : Str) == f) = false) (hf : fieldOf n = some f) : ErrIs K ct C (gx f n x) n x := by
  refine ⟨ex, is, no, ?_, ?_⟩
  · unfold gx
    rw [List.lookup_cons, h]
    simp
  · rw [hf]
    show List.lookup f (gx f n x) = some x
    unfold gx
    rw [List.lookup_cons]
    simp
theorem e_text {K : PySem.W.Frag} {mg : Str → Option Value} (T : Txt K mg) {x : D} : ErrIs K [.ref T.c_PartError, .ref T.c_Missing, .ref T.c_NothingLeft] T.c_InvalidText (gx "line" "InvalidText" x) "InvalidText" x := err_of T.ex_InvalidText T.xa_InvalidText.x.is T.xa_InvalidText.no (by decide) (by decide +kernel)
theorem cut_to {xs : List D} {k : Nat} (h : k ≤ xs.length) : cutD xs none (some (k : Int)) = xs.take k := by
  unfold cutD
  rw [HT.sIx_nat, show HT.sIx xs.length 0 none = 0 from rfl, List.drop_zero, Nat.sub_zero, Nat.min_eq_left h]
theorem cut_from {xs : List D} {k : Nat} (h : k ≤ xs.length) : cutD xs (some (k : Int)) none = xs.drop k := by
  unfold cutD
  rw [HT.sIx_nat, show HT.sIx xs.length xs.length none = xs.length from rfl, Nat.min_eq_left h]
  exact List.take_of_length_le (by rw [List.length_drop]; omega)
theorem cut_of1 {xs : List D} {k : Nat} {a : Int} (h : k ≤ xs.length) (e : a = (k : Int)) : cutD xs (some a) none = xs.drop k := by
  rw [e]; exact cut_from h
theorem txsD_take {zs : List Str} {k : Nat} : (txsD zs).take k = txsD (zs.take k) := by simp [txsD, List.map_take]
theorem txsD_drop {zs : List Str} {k : Nat} : (txsD zs).drop k = txsD (zs.drop k) := by simp [txsD, List.map_drop]
theorem txsD_app {ys zs : List Str} : txsD ys ++ txsD zs = txsD (ys ++ zs) := by simp [txsD]
theorem txsD_one {z : Str} : [D.str z] = txsD [z] := rfl
theorem txsD_length {zs : List Str} : (txsD zs).length = zs.length := by simp [txsD]
theorem ev_bent {F : Fm} {δ : List SD} {i : Nat} {te tk : TE} {zs : List Str} {k : Nat} {P : D → Prop} (hi : δ[i]? = some (.dat (.lst (txsD zs)))) (hk : Ev F tk δ (· = .int (k : Int))) (h : k ≤ zs.length) (hz : zs.length ≤ 1000) {z : Str} (hx : Ev F te δ (· = .str z)) (p : P (.lst (txsD (zs.take k ++ [z] ++ zs.drop k)))) :
    Ev F (tOp rCat (tOp rCat (tSl (rSlL F.K) (tVar i) tNoPart (tPart tk)) (tLst (tCons te tNil))) (tSl (rSlL F.K) (tVar i) (tPart tk) tNoPart)) δ P := by
  refine ev_op (ev_op (EvN.ev (en_slL (ev_var hi (eo_none (eo_some (hk.imp fun d e => ⟨_, e, _, rfl, ?_⟩)))))))
  rw [cut_to (by rw [txsD_length]; exact h), txsD_take]
  refine ev_lst (ea_cons (hx.imp fun d e => ea_nil ⟨by simp, ?_⟩))
  subst e
  rw [txsD_one]
  refine od_cat (by rw [txsD_length, txsD_length, List.length_take]; simp; omega) ?_
  refine EvN.ev (en_slL (ev_var hi (eo_some (hk.imp fun d e => ⟨_, e, eo_none ⟨_, rfl, ?_⟩⟩))))
  rw [cut_from (by rw [txsD_length]; exact h), txsD_drop, txsD_app]
  refine od_cat (by rw [txsD_length, txsD_length, List.length_append, List.length_take, List.length_drop]; simp; omega) ?_
  rw [txsD_app]
  exact p
theorem ev_head1 {F : Fm} {δ : List SD} {i j : Nat} {zs : List Str} {z : Str} {P : D → Prop} (hi : δ[i]? = some (.dat (.lst (txsD zs)))) (hj : δ[j]? = some (.dat (.str z))) (h : 1 ≤ zs.length) (hz : zs.length ≤ 1000) (p : P (.lst (txsD ([z] ++ zs.drop 1)))) :
    Ev F (tOp rCat (tLst (tCons (tVar j) tNil)) (tSl (rSlL F.K) (tVar i) (tPart (tC (.int 1))) tNoPart)) δ P := by
  refine ev_op (ev_lst (ea_cons (ev_var hj (ea_nil ⟨by simp, EvN.ev (en_slL (ev_var hi (eo_some (ev_int ⟨_, rfl, eo_none ⟨_, rfl, ?_⟩⟩))))⟩))))
  rw [cut_of1 (k := 1) (a := 1) (by rw [txsD_length]; exact h) rfl, txsD_drop, txsD_one]
  refine od_cat (by rw [txsD_length, txsD_length, List.length_drop]; simp; omega) ?_
  rw [txsD_app]
  exact p
theorem ev_end1 {F : Fm} {δ : List SD} {i j : Nat} {zs : List Str} {z : Str} {P : D → Prop} (hi : δ[i]? = some (.dat (.lst (txsD zs)))) (hj : δ[j]? = some (.dat (.str z))) (hz : zs.length ≤ 1000) (p : P (.lst (txsD (zs ++ [z])))) :
    Ev F (tOp rCat (tVar i) (tLst (tCons (tVar j) tNil))) δ P := by
  refine ev_op (ev_var hi (ev_lst (ea_cons (ev_var hj (ea_nil ⟨by simp, ?_⟩)))))
  rw [txsD_one]
  refine od_cat (by rw [txsD_length, txsD_length]; simp; omega) ?_
  rw [txsD_app]
  exact p
theorem ev_textOf {F : Fm} {δ : List SD} {ta : TA} {E : XK} {ls : List Str} {P : D → Prop} (hn : ls.length ≤ 400) (hw : ∀ l ∈ ls, l.length ≤ 1000) (h : EvA F ta δ (· = [.lst (txsD ls)])) (p : P (.str (textOf ls))) : Ev F (tCall (spD F.K preTx poTx) [] E ta) δ P :=
  ev_call (h.imp fun ds e => ⟨⟨ls, e, hn, hw⟩, fun d hd => by
    obtain ⟨ls', e', rfl⟩ := hd
    rw [e] at e'
    obtain rfl := txsD_inj (D.lst.inj (List.cons.inj e').1)
    exact p⟩)
theorem cut_at1 {xs : List D} {k : Nat} {a : Int} (h : k ≤ xs.length) (e : a = (k : Int)) : cutD xs none (some a) = xs.take k := by
  rw [e]; exact cut_to h
theorem cutS_pre {x y : Str} {hi : Option Int} (h : HT.sIx (x ++ y).length (x ++ y).length hi = x.length) : cutS (x ++ y) none hi = x := by
  unfold cutS
  rw [h, HT.sIx_none, List.drop_zero, Nat.sub_zero]
  have e : (x ++ y).cps.toList.take x.length = x.cps.toList := by
    have : (x ++ y).cps.toList = x.cps.toList ++ y.cps.toList := TL.tl_append x y
    rw [this, List.take_left' (str_len x)]
  rw [e]
theorem sIx_m1 (n d : Nat) : HT.sIx n d (some (-1)) = ((-1 : Int) + (n : Int)).toNat := by
  show (if (-1 : Int) < 0 then ((-1 : Int) + (n : Int)).toNat else min (-1 : Int).toNat n) = _
  rw [if_pos (by decide)]
theorem cut_off1 {x y : Str} (h : y.length = 1) : cutS (x ++ y) none (some (-1)) = x := by
  refine cutS_pre ?_
  rw [sIx_m1, add_len, h]
  omega
theorem text_app (as bs : List Str) : textOf (as ++ bs) = textOf as ++ textOf bs := by
  refine TL.ext_tl ?_
  unfold textOf
  rw [TL.tl_append, TL.join_eq, TL.tl_join, TL.join_eq, TL.tl_join, TL.join_eq, TL.tl_join, em_is, joinL_nil, joinL_nil, joinL_nil, List.map_append, List.map_append, List.flatten_append]
theorem text_one (l : Str) : textOf [l] = l ++ nlS := rfl
theorem app_assoc (x y z : Str) : x ++ y ++ z = x ++ (y ++ z) := by
  refine TL.ext_tl ?_
  rw [TL.tl_append, TL.tl_append, TL.tl_append, TL.tl_append, List.append_assoc]
/-! ### the law's line of a state with another goal -/
def farL (s : StT) (k : Nat) (z : Str) : Str := lineOf (wordsG s.1 s.2.1 (if k = 0 then z else goalS s.2.2.1) (if k = 1 then z else goalS s.2.2.2))
def preFar : List D → Prop := fun ds => ∃ (r : RdT) (s : StT) (k : Nat) (z : Str), ds = [specD r, .int (k : Int), .str z] ∧ GoodRd r ∧ r.ss[0]? = some s ∧ k < 2 ∧ Word z
def poFar : List D → D → Prop := fun ds d => ∃ (r : RdT) (s : StT) (k : Nat) (z : Str), ds = [specD r, .int (k : Int), .str z] ∧ r.ss[0]? = some s ∧ d = .str (farL s k z)
theorem far_of {r : RdT} {s : StT} {k : Nat} {z : Str} {d : D} (hs : r.ss[0]? = some s) (h : poFar [specD r, .int (k : Int), .str z] d) : d = .str (farL s k z) := by
  obtain ⟨r', s', k', z', e, hs', rfl⟩ := h
  simp only [List.cons.injEq, D.int.injEq, D.str.injEq, and_true] at e
  obtain ⟨e1, e2, e3⟩ := e
  obtain rfl := specD_inj e1
  obtain rfl : k = k' := by omega
  subst e3
  rw [hs] at hs'
  cases hs'
  rfl
theorem ok_far_line {P : Program} {w : World} {K : PySem.W.Frag} {mg : Str → Option Value} {base : Heap} (T : Txt K mg) : FnOk P w K mg base CX0 6 T.f_far_line T.fd_far_line ["_law_spec_here", "_law_slot", "_law_goal"] (spD K preFar poFar) := by
  refine T.F_far_line.ok sc_far_line (spD_len fun ds ⟨r, s, k, z, e, _⟩ => by rw [e]; rfl) (fun cdv A outer s H vs Q E hr h => ?_)
  refine ⟨_, (pss_cons (ps_asg (pe_ix (ixL K) (pe_ix (ixT K) (pv 0) pe_int (fun _ _ => rfl)) pe_int (fun _ _ => rfl)) (pgTup K (n := 4) rfl (pgs_cons (pg_name (i := 3) sc_far_line.nd rfl (Or.inl rfl)) (pgs_cons (pg_name (i := 4) sc_far_line.nd rfl (Or.inl rfl)) (pgs_cons (pg_name (i := 5) sc_far_line.nd rfl (Or.inl rfl)) (pgs_cons (pg_name (i := 6) sc_far_line.nd rfl (Or.inl rfl)) pgs_nil))))))
    (pss_cons (ps_set (i := 7) sc_far_line.nd rfl (Or.inl rfl) (pe_lst (pa_cons (pe_call (ok_goal_word T) (hr.mono (by decide)) rfl T.g_goal_word T.k_goal_word T.bd_goal_word .nil pass0 (pa_cons (pv 5) pa_nil)) (pa_cons (pe_call (ok_goal_word T) (hr.mono (by decide)) rfl T.g_goal_word T.k_goal_word T.bd_goal_word .nil pass0 (pa_cons (pv 6) pa_nil)) pa_nil))))
    (pss_cons (ps_asg (pv 2) (pg_sub (pv 7) (pv 1) set_list))
    (pss_one (ps_ret (pe_join pe_str (pe_op op_cat (pe_op op_cat (pe_lst (pa_cons pe_str (pa_cons (pe_callTy callStrA (by rfl) T.b_str (by decide +kernel) (pa_cons (pv 3) pa_nil)) pa_nil))) (pv 7)) (pe_lc (own := [("_law_ask", 8)]) rfl sc_far_line.nd (piT K (pv 4)) (blkOk_by (N := N_far_line) (sc := defScope s_far_line) (by decide +kernel)) (fun _ _ _ _ _ => (pg_name (i := 8) sc_far_line.nd rfl (Or.inl rfl))) (fun _ _ _ _ _ => pts_nil) (fun _ _ _ _ _ => (pe_callTy callStrA (by rfl) T.b_str (by decide +kernel) (pa_cons (pv 8) pa_nil))))))))))), ?_⟩
  refine enterD h fun M ds pre _ => ?_
  obtain ⟨r, s, k, z, rfl, g, hs, hk, wz⟩ := pre
  have gs := g.ss.st s (List.mem_of_getElem? hs)
  have n6 := g.ss.n6
  have p4 := g.ss.p4
  obtain ⟨s1, s2, s3, s4, s5⟩ := gs.small (by omega) p4
  have w1 := word_goal s2
  have w2 := word_goal s3
  have at3 : atI [D.str r.m, .str r.i, .str r.o, .lst (stsD r.ss)] 3 = some (.lst (stsD r.ss)) := rfl
  have at0 : atI (stsD r.ss) 0 = some (stD s) := atI_nat (j := 0) (by unfold stsD; rw [List.getElem?_map, hs]; rfl)
  have gG := wordsG_ok gs.s0 gs.s1 s5 gs.as (g1 := if k = 0 then z else goalS s.2.2.1) (g2 := if k = 1 then z else goalS s.2.2.2) (by split; exact wz; exact w1) (by split; exact wz; exact w2)
  have hs0 := hs
  obtain ⟨sz, as, fu, th⟩ := s
  simp only at s1 s2 s3 s4 s5
  refine do_seq (do_asg (js := [3, 4, 5, 6]) (ev_op (ev_op (ev_var (d := specD r) rfl (ev_int (od_ixT at3 (ev_int (od_ixL at0 ?_))))))))
  refine tg_tup rfl (tgs_cons (js := [3]) (ks := [4, 5, 6]) (tg_name (tgs_cons (js := [4]) (ks := [5, 6]) (tg_name (tgs_cons (js := [5]) (ks := [6]) (tg_name (tgs_cons (js := [6]) (ks := []) (tg_name (tgs_nil ?_)))))))))
  refine do_seq (do_own (en_lst (ea_cons (ev_call (ea_cons (ev_var rfl (ea_nil ⟨⟨fu, rfl, s2⟩, fun d hd => ?_⟩)))))))
  obtain rfl := gw_of hd
  refine ea_cons (ev_call (ea_cons (ev_var rfl (ea_nil ⟨⟨th, rfl, s3⟩, fun d hd => ?_⟩))))
  obtain rfl := gw_of hd
  refine ea_nil ⟨by simp, fun p => ?_⟩
  refine do_seq (do_setAt (i := 7) (p := p) rfl (ev_var (d := .str z) rfl (ev_var (d := .int (k : Int)) rfl ⟨k, rfl, hk, ?_⟩)))
  refine do_freeze (i := 7) (p := p) (ds := .lst ([D.str (goalS fu), .str (goalS th)].set k (.str z))) rfl ?_
  have e0 : ([D.str (goalS fu), .str (goalS th)].set k (.str z)) = [.str (if k = 0 then z else goalS fu), .str (if k = 1 then z else goalS th)] := by
    match k, hk with
    | 0, _ => rfl
    | 1, _ => rfl
  rw [e0]
  refine do_ret (ev_m1 (ev_str ⟨_, rfl, ev_op (ev_op (ev_lst (ea_cons (ev_str (ea_cons (ev_cb (ea_cons (ev_var (d := .int sz) rfl (ea_nil (cd_strAI (log2_small s1) (ea_nil ⟨by simp, ev_var rfl (od_cat (by simp) (EvN.ev ?_))⟩)))))))))))⟩))
  refine en_lc (js := [8]) (PX := fun l => l = as.map .int) (it_tup (ev_var rfl ⟨_, rfl, rfl⟩)) (fun l e => by rw [e, List.length_map]; omega) (by decide) (fun l i acc => acc = strD ((as.take i).map numS)) (fun l e => rfl) ?_ ?_
  · rintro l j x acc rfl hj rfl
    rw [List.getElem?_map] at hj
    cases hx : as[j]? with
    | none => rw [hx] at hj; cases hj
    | some y =>
      rw [hx] at hj
      obtain rfl : D.int y = x := Option.some.inj hj
      refine tg_name (et_yes ⟨fun _ => ev_cb (ea_cons (ev_var rfl (ea_nil (cd_strAI (log2_small (s4 y (List.mem_of_getElem? hx))) ?_)))), fun h => nomatch h⟩)
      show strD _ ++ [D.str (numS y)] = _
      rw [List.take_succ, hx]
      simp [strD]
  rintro l ds rfl rfl
  rw [List.length_map, List.take_length]
  refine od_cat (by simp [strD]; omega) ?_
  have e1 : (([.str (Str.ofString "state"), .str (numS sz)] ++ [.str (if k = 0 then z else goalS fu), .str (if k = 1 then z else goalS th)]) ++ strD (as.map numS) : List D) = strD (wordsG sz as (if k = 0 then z else goalS fu) (if k = 1 then z else goalS th)) := rfl
  show CallD _ _ [_, .lst (([.str (Str.ofString "state"), .str (numS sz)] ++ [.str (if k = 0 then z else goalS fu), .str (if k = 1 then z else goalS th)]) ++ strD (as.map numS))] _
  rw [e1]
  refine cd_join ?_ ⟨r, (sz, as, fu, th), k, z, rfl, hs0, rfl⟩
  have h1 := sum_le (k := 40) (zs := wordsG sz as (if k = 0 then z else goalS fu) (if k = 1 then z else goalS th)) fun w hw => by
    unfold wordsG at hw
    rcases List.mem_cons.mp hw with rfl | hw
    · decide +kernel
    rcases List.mem_cons.mp hw with rfl | hw
    · exact (word_num s1).1
    rcases List.mem_cons.mp hw with rfl | hw
    · split
      · exact wz.1
      · exact w1.1
    rcases List.mem_cons.mp hw with rfl | hw
    · split
      · exact wz.1
      · exact w2.1
    · obtain ⟨a, hm, rfl⟩ := List.mem_map.mp hw
      exact (word_num (s4 a hm)).1
  have h2 : (wordsG sz as (if k = 0 then z else goalS fu) (if k = 1 then z else goalS th)).length ≤ 8 := by simp [wordsG]; omega
  rw [sp_len]
  omega

end Pf

set_option maxHeartbeats 16000000
namespace Pf
open PySem L2 PfL RZ
local macro_rules | `(tactic| walk_at "ev") => `(tactic| first
  | ((with_reducible refine' ev_var ?h ?_); (case h => rfl))
  | with_reducible refine ev_int ?_
  | with_reducible refine ev_bl ?_
  | with_reducible refine ev_str ?_
  | with_reducible refine ev_non ?_
  | with_reducible refine ev_ty ?_
  | with_reducible refine ev_op ?_
  | with_reducible refine ev_un ?_
  | with_reducible refine ev_chain ?_
  | with_reducible refine ev_if ?_
  | with_reducible refine ev_and ?_
  | with_reducible refine ev_or ?_
  | with_reducible refine ev_not ?_
  | with_reducible refine ev_lst ?_
  | with_reducible refine ev_tup ?_
  | with_reducible refine ea_nil ?_
  | with_reducible refine ea_cons ?_
  | with_reducible refine ev_cb ?_
  | with_reducible refine et_test ?_
  | with_reducible refine et_B ?_
  | with_reducible refine et_and ?_
  | with_reducible refine et_or ?_
  | with_reducible refine et_not ?_
  | with_reducible refine et_yes ?_
  | with_reducible refine eo_none ?_
  | with_reducible refine eo_some ?_
  | with_reducible refine ev_slS ?_
  | with_reducible refine od_int ?_
  | with_reducible refine od_bl ?_
  | with_reducible refine od_eq_int ?_
  | with_reducible refine od_ne_int ?_
  | with_reducible refine od_eq_bl ?_
  | with_reducible refine od_ne_bl ?_
  | with_reducible refine od_eq_str ?_
  | with_reducible refine od_ne_str ?_
  | with_reducible refine od_leS ?_
  | with_reducible refine ud_isN ?_
  | with_reducible refine ud_notN ?_
  | with_reducible refine do_seq ?_
  | with_reducible refine do_set ?_
  | with_reducible refine do_ret ?_
  | with_reducible refine do_retN ?_
  | with_reducible refine do_if ?_
  | with_reducible refine do_next ?_
  | with_reducible refine tg_name ?_
  | with_reducible refine tgs_nil ?_
  | with_reducible refine tgs_cons ?_)
/-! ### the texts with far goals -/
def setG (s : StT) (k : Nat) (o : Option Int) : StT := (s.1, s.2.1, if k = 0 then o else s.2.2.1, if k = 1 then o else s.2.2.2)
theorem far_line {n : Int} {P : Nat} {s : StT} (p1 : 1 ≤ P) (p4 : P ≤ 4) (hn : n ≤ 6) (g : GoodSt n P s) {k : Nat} {z : Str} (wz : Word z) : OddL (farL s k z) ∧ stP (farL s k z) = if ((if k = 0 then goalOk z else true) && (if k = 1 then goalOk z else true)) = true then some (setG s k (numOf z)) else none := by
  obtain ⟨_, s2, s3, _, _⟩ := g.small hn p4
  obtain ⟨sz, as, fu, th⟩ := s
  have al : as.length = P := g.al
  have w1 := word_goal s2
  have w2 := word_goal s3
  have l0 : 1 ≤ as.length := by omega
  have l4 : as.length ≤ 4 := by omega
  have v1 : Word (if k = 0 then z else goalS fu) := by split; exact wz; exact w1
  have v2 : Word (if k = 1 then z else goalS th) := by split; exact wz; exact w2
  refine ⟨(wordsG_ok (sz := sz) (as := as) g.s0 g.s1 l4 g.as v1 v2).1, ?_⟩
  have e := st_line (sz := sz) (as := as) g.s0 g.s1 l0 l4 g.as v1 v2
  have o1 := goalOk_goal s2
  have o2 := goalOk_goal s3
  have m1 := numOf_goal s2
  have m2 := numOf_goal s3
  simp only at o1 o2 m1 m2
  have c1 : goalOk (if k = 0 then z else goalS fu) = if k = 0 then goalOk z else true := by split <;> simp [o1]
  have c2 : goalOk (if k = 1 then z else goalS th) = if k = 1 then goalOk z else true := by split <;> simp [o2]
  have c3 : numOf (if k = 0 then z else goalS fu) = if k = 0 then numOf z else fu := by split <;> simp [m1]
  have c4 : numOf (if k = 1 then z else goalS th) = if k = 1 then numOf z else th := by split <;> simp [m2]
  rw [c1, c2, c3, c4] at e
  exact e
theorem far_fit {n : Int} {P : Nat} {s : StT} (p1 : 1 ≤ P) (p4 : P ≤ 4) (hn : n ≤ 6) (g : GoodSt n P s) {k : Nat} {z : Str} (wz : Word z) (ok : goalOk z = true) : Fit P (farL s k z, setG s k (numOf z)) := by
  have h := far_line (k := k) p1 p4 hn g wz
  refine ⟨h.1, ?_, g.al⟩
  rw [h.2, ok]
  rw [if_pos (by split <;> split <;> rfl)]
theorem far_none {n : Int} {P : Nat} {s : StT} (p1 : 1 ≤ P) (p4 : P ≤ 4) (hn : n ≤ 6) (g : GoodSt n P s) {k : Nat} (hk : k < 2) {z : Str} (wz : Word z) (ok : goalOk z = false) : OddL (farL s k z) ∧ stP (farL s k z) = none := by
  have h := far_line (k := k) p1 p4 hn g wz
  refine ⟨h.1, ?_⟩
  rw [h.2, ok, if_neg]
  match k, hk with
  | 0, _ => simp
  | 1, _ => simp
theorem setG_in {m n : Int} {P : Nat} {s : StT} (g : GoodSt n P s) (hm : n ≤ m) {k : Nat} (hk : k < 2) (o : Option Int) : (goalIn m (setG s k o).2.2.1 && goalIn m (setG s k o).2.2.2) = goalIn m o := by
  have h1 := goalIn_opt g.fu hm
  have h2 := goalIn_opt g.th hm
  match k, hk with
  | 0, _ =>
    show (goalIn m o && goalIn m s.2.2.2) = _
    rw [h2, Bool.and_true]
  | 1, _ =>
    show (goalIn m s.2.2.1 && goalIn m o) = _
    rw [h1, Bool.true_and]
theorem textOf_cut {ls : List Str} {y : Str} : cutS (textOf (ls ++ [y])) none (some (-1)) = textOf ls ++ y := by
  rw [text_app, text_one, ← app_assoc, cut_off1 nl_len]
theorem x_no : stP (Str.ofString "x") = none := by decide +kernel
theorem x_odd : OddL (Str.ofString "x") := oddL_by (by decide +kernel)
theorem fit_ne {P : Nat} {p : PS} (h : Fit P p) : p.1 ≠ Str.ofString "" := fun e => by
  have h2 := h.2.1
  rw [e] at h2
  have h3 : stP (Str.ofString "") = none := by decide +kernel
  rw [h3] at h2
  cases h2
section
variable {r : RdT} {P : Nat} {ps : List PS}
/-- the lines of the pairs behind the head -/
def hdL (r : RdT) (ls : List Str) : List Str := lineOf (headR r) :: ls
theorem tx_goal (g : GoodRd r) (h : ∀ p ∈ ps, Fit P p) (hz : ps.length ≤ 6) {k : Nat} (hk : badGoal ps.length 1 (ps.map Prod.snd) = some k) : TextR (textOf (hdL r (ps.map Prod.fst))) (.inl (k : Int)) := by
  refine TextR.bare (TextR.of (oddLs g (fit_odd h)) (by simp; omega) em_free em_z ⟨k, rfl, ?_⟩)
  have ne : ps ≠ [] := fun e => by subst e; cases hk
  rw [readR_fit g h hz, if_neg (by rw [not_or]; exact ⟨fun h => h rfl, ne⟩), hk]
theorem tx_good (g : GoodRd r) (h : ∀ p ∈ ps, Fit P p) (hz : ps.length ≤ 6) (ne : ps ≠ []) (hk : badGoal ps.length 1 (ps.map Prod.snd) = none) : TextR (textOf (hdL r (ps.map Prod.fst))) (.inr (ps.length : Int)) := by
  refine TextR.bare (TextR.of (oddLs g (fit_odd h)) (by simp; omega) em_free em_z ⟨⟨r.m, r.i, r.o, ps.map Prod.snd⟩, ?_, ?_⟩)
  · rw [readR_fit g h hz, if_neg (by rw [not_or]; exact ⟨fun h => h rfl, ne⟩), hk]
  · simp
/-- characters behind the last line feed -/
theorem tx_rest (g : GoodRd r) (h : ∀ p ∈ ps, Fit P p) (hz : ps.length ≤ 6) {rest : Str} (hr : 10 ∉ TL.tl rest) (hrz : rest.length ≤ 1000) (ne : rest ≠ Str.ofString "" ∨ ps = []) : TextR (textOf (hdL r (ps.map Prod.fst)) ++ rest) (.inl ((ps.length : Int) + 1)) := by
  refine TextR.of (oddLs g (fit_odd h)) (by simp; omega) hr hrz ⟨ps.length + 1, by omega, ?_⟩
  rw [readR_fit g h hz, if_pos ne]
theorem tx_line (g : GoodRd r) (h : ∀ p ∈ ps, Fit P p) (hz : ps.length ≤ 6) {l : Str} (ol : OddL l) {more : List Str} (om : ∀ x ∈ more, OddL x) (hm : more.length ≤ 20) (hl : stP l = none ∨ ∃ s, stP l = some s ∧ misfit (ps.map Prod.snd) (ps.length + 1) s = true) : TextR (textOf (hdL r (ps.map Prod.fst ++ l :: more))) (.inl ((ps.length : Int) + 1)) := by
  refine TextR.bare (TextR.of (oddLs g fun x hx => ?_) (by simp; omega) em_free em_z ⟨ps.length + 1, by omega, readR_bad g h hz hl⟩)
  rcases List.mem_append.mp hx with hx | hx
  · exact fit_odd h x hx
  rcases List.mem_cons.mp hx with rfl | hx
  · exact ol
  · exact om x hx
theorem tx_cut (g : GoodRd r) (h : ∀ p ∈ ps, Fit P p) (hz : ps.length ≤ 7) (ne : ps ≠ []) : TextR (cutS (textOf (hdL r (ps.map Prod.fst))) none (some (-1))) (.inl (ps.length : Int)) := by
  obtain ⟨qs, q, rfl⟩ : ∃ qs q, ps = qs ++ [q] := ⟨ps.dropLast, ps.getLast ne, (List.dropLast_concat_getLast ne).symm⟩
  have hq := h q (by simp)
  have e : hdL r ((qs ++ [q]).map Prod.fst) = hdL r (qs.map Prod.fst) ++ [q.1] := by simp [hdL]
  rw [e, textOf_cut]
  have := tx_rest (rest := q.1) g (fun p hp => h p (List.mem_append_left _ hp)) (by simp at hz; omega) hq.1.fr hq.1.ok.z (.inl (fit_ne hq))
  rw [show (((qs ++ [q]).length : Nat) : Int) = (qs.length : Int) + 1 by simp]
  exact this
end
/-- pairs put in at a place of the reader's own -/
def insP (r : RdT) (a : Nat) (qs : List PS) : List PS := (baseP r).take a ++ qs ++ (baseP r).drop a
theorem insP_fit {r : RdT} (g : GoodRd r) {a : Nat} {qs : List PS} (h : ∀ q ∈ qs, Fit (partsOf r.ss) q) : ∀ p ∈ insP r a qs, Fit (partsOf r.ss) p := fun p hp => by
  unfold insP at hp
  rcases List.mem_append.mp hp with hp | hp
  · rcases List.mem_append.mp hp with hp | hp
    · exact base_fit g p (List.mem_of_mem_take hp)
    · exact h p hp
  · exact base_fit g p (List.mem_of_mem_drop hp)
theorem insP_len {r : RdT} {a : Nat} (ha : a ≤ r.ss.length) (qs : List PS) : (insP r a qs).length = r.ss.length + qs.length := by
  unfold insP
  rw [List.length_append, List.length_append, List.length_take, List.length_drop, base_len]
  omega
theorem insP_fst (r : RdT) (a : Nat) (qs : List PS) : hdL r ((insP r a qs).map Prod.fst) = (linesR r).take (a + 1) ++ qs.map Prod.fst ++ (linesR r).drop (a + 1) := by
  rw [linesR_eq]
  simp [insP, hdL, List.map_take, List.map_drop]
theorem insP_bad {r : RdT} (g : GoodRd r) {a : Nat} (ha : a ≤ r.ss.length) {q : PS} {qs : List PS} {m : Int} (hm : (r.ss.length : Int) ≤ m) (hq : (goalIn m q.2.2.2.1 && goalIn m q.2.2.2.2) = false) : badGoal m 1 ((insP r a (q :: qs)).map Prod.snd) = some (a + 1) := by
  have e : (insP r a (q :: qs)).map Prod.snd = r.ss.take a ++ q.2 :: (qs.map Prod.snd ++ r.ss.drop a) := by
    simp [insP, List.map_take, List.map_drop, base_snd]
  rw [e, badGoal_at (fun t ht => base_goals g hm t (List.mem_of_mem_take ht)) hq, List.length_take, Nat.min_eq_left ha, Nat.add_comm]
theorem insP_ok {r : RdT} (g : GoodRd r) {a : Nat} {q : PS} {m : Int} (hm : (r.ss.length : Int) ≤ m) (hq : (goalIn m q.2.2.2.1 && goalIn m q.2.2.2.2) = true) : badGoal m 1 ((insP r a [q]).map Prod.snd) = none := by
  have e : (insP r a [q]).map Prod.snd = r.ss.take a ++ q.2 :: r.ss.drop a := by
    simp [insP, List.map_take, List.map_drop, base_snd]
  rw [e]
  refine badGoal_no fun t ht => ?_
  rcases List.mem_append.mp ht with ht | ht
  · exact base_goals g hm t (List.mem_of_mem_take ht)
  rcases List.mem_cons.mp ht with rfl | ht
  · rw [Bool.and_eq_true] at hq
    exact hq
  · exact base_goals g hm t (List.mem_of_mem_drop ht)
/-- a goal that is no state of a few more than n -/
structure FarG (n : Nat) (z : Str) : Prop where
  w : Word z
  ok : goalOk z = true
  far : ∀ m : Int, m ≤ (n : Int) + 2 → goalIn m (numOf z) = false
theorem farG_num {n : Nat} {i : Int} (hi : i.natAbs < 10 ^ 20) (h : i < 0 ∨ (n : Int) + 2 ≤ i) : FarG n (numS i) := by
  refine ⟨word_num hi, ?_, fun m hm => ?_⟩
  · unfold goalOk
    rw [numOf_numS hi]
    simp
  · rw [numOf_numS hi]
    show (decide (0 ≤ i) && decide (i ≤ m - 1)) = false
    rcases h with h | h
    · rw [decide_eq_false (by omega)]
      rfl
    · rw [decide_eq_false (p := i ≤ m - 1) (by omega), Bool.and_false]
theorem six_is : Str.ofString "6" = numS 6 := by decide +kernel
theorem n99_is : Str.ofString "99" = numS 99 := by decide +kernel
theorem neg_is : Str.ofString "-1" = numS (-1) := by decide +kernel
def ones (k : Nat) : Str := PfL.timesS (Str.ofString "1") k
theorem ones_30 : wordB (ones 30) = true ∧ goalOk (ones 30) = true := by decide +kernel
theorem ones_31 : wordB (ones 31) = true ∧ goalOk (ones 31) = false := by decide +kernel

end Pf

set_option maxHeartbeats 16000000
namespace Pf
open PySem L2 PfL RZ
local macro_rules | `(tactic| walk_at "ev") => `(tactic| first
  | ((with_reducible refine' ev_var ?h ?_); (case h => rfl))
  | with_reducible refine ev_int ?_
  | with_reducible refine ev_bl ?_
  | with_reducible refine ev_str ?_
  | with_reducible refine ev_non ?_
  | with_reducible refine ev_ty ?_
  | with_reducible refine ev_op ?_
  | with_reducible refine ev_un ?_
  | with_reducible refine ev_chain ?_
  | with_reducible refine ev_if ?_
  | with_reducible refine ev_and ?_
  | with_reducible refine ev_or ?_
  | with_reducible refine ev_not ?_
  | with_reducible refine ev_lst ?_
  | with_reducible refine ev_tup ?_
  | with_reducible refine ea_nil ?_
  | with_reducible refine ea_cons ?_
  | with_reducible refine ev_cb ?_
  | with_reducible refine et_test ?_
  | with_reducible refine et_B ?_
  | with_reducible refine et_and ?_
  | with_reducible refine et_or ?_
  | with_reducible refine et_not ?_
  | with_reducible refine et_yes ?_
  | with_reducible refine eo_none ?_
  | with_reducible refine eo_some ?_
  | with_reducible refine ev_slS ?_
  | with_reducible refine od_int ?_
  | with_reducible refine od_bl ?_
  | with_reducible refine od_eq_int ?_
  | with_reducible refine od_ne_int ?_
  | with_reducible refine od_eq_bl ?_
  | with_reducible refine od_ne_bl ?_
  | with_reducible refine od_eq_str ?_
  | with_reducible refine od_ne_str ?_
  | with_reducible refine od_leS ?_
  | with_reducible refine ud_isN ?_
  | with_reducible refine ud_notN ?_
  | with_reducible refine do_seq ?_
  | with_reducible refine do_set ?_
  | with_reducible refine do_ret ?_
  | with_reducible refine do_retN ?_
  | with_reducible refine do_if ?_
  | with_reducible refine do_next ?_
  | with_reducible refine tg_name ?_
  | with_reducible refine tgs_nil ?_
  | with_reducible refine tgs_cons ?_)
theorem sub_ty {K : PySem.W.Frag} {C : Addr} {n : String} (h : n ∈ tyNames) : PySem.W.subIn K (.type n) (.ref C) = some false := by
  have key : ∀ (n : String) (l : List Value), fastBuiltinMro n = some l → (l.all fun v => match v with | .type _ => true | _ => false) = true → PySem.W.subIn K (.type n) (.ref C) = some false := fun n l e hl => by
    show (fastBuiltinMro n).map (·.contains (.ref C)) = some false
    rw [e]
    show some (l.contains (Value.ref C)) = some false
    congr 1
    rw [List.contains_eq_any_beq, List.any_eq_false]
    intro v hv
    have := List.all_eq_true.mp hl v hv
    cases v <;> simp_all
  simp only [tyNames, List.mem_cons, List.not_mem_nil, or_false] at h
  rcases h with rfl | rfl | rfl | rfl | rfl | rfl | rfl
  · exact key _ [.type "NoneType", .type "object"] (by decide +kernel) (by decide)
  · exact key _ [.type "bool", .type "int", .type "object"] (by decide +kernel) (by decide)
  · exact key _ [.type "int", .type "object"] (by decide +kernel) (by decide)
  · exact key _ [.type "str", .type "object"] (by decide +kernel) (by decide)
  · exact key _ [.type "list", .type "object"] (by decide +kernel) (by decide)
  · exact key _ [.type "tuple", .type "object"] (by decide +kernel) (by decide)
  · exact key _ [.type "dict", .type "object"] (by decide +kernel) (by decide)
theorem kit_ty {K : PySem.W.Frag} {C : Addr} {n : String} (hc : PySem.W.isClsIn K C = true) (ht : PySem.W.typeIn K (.ref C) = some (.type "type")) (h : n ∈ tyNames) : PySem.W.kitOne K (.type n) (.ref C) = some false := by
  unfold PySem.W.kitOne
  rw [if_neg (by simp)]
  show (if ((PySem.W.clsIn K C).isSome && PySem.W.typeIn K (.ref C) == some (.type "type")) = true then PySem.W.subIn K (.type n) (.ref C) else none) = some false
  have hc' : (PySem.W.clsIn K C).isSome = true := hc
  rw [if_pos (by rw [hc', ht]; simp), sub_ty h]
theorem raw0 {P : Program} {w : World} {K : PySem.W.Frag} {mg : Str → Option Value} {base : Heap} {CX : CXT} {k : Nat} {f : Addr} {sp : Sp} {fd : FuncData} {ps : List Str} (F : FnOk P w K mg base CX k f fd ps sp) (hb : Binds K fd ps []) : FnR P w K mg base CX k f sp :=
  (F.raw hb .nil).imp fun vs H Q E h => by rw [List.append_nil]; exact h
theorem hj1 {δ : List SD} {a : Nat} {x : D} (h : δ[a]? = some (.dat x)) : ∀ j ∈ [a], ∃ d, δ[j]? = some (.dat d) := fun j hj => by
  rw [List.mem_singleton.mp hj]
  exact ⟨_, h⟩
/-! ### _law_goals_so -/
theorem negb {K : PySem.W.Frag} {P : D → Prop} (p : P (.int (-1))) : UnD K (rU fun i => .int (-i)) (.int 1) P := fun M H v Q al r1 q => by
  cases r1
  exact ⟨_, rfl, q _ _ H p (Same.refl H) (.int _)⟩
/-- xs[:i] + more + xs[i:] of texts -/
theorem ev_bentL {F : Fm} {δ : List SD} {i : Nat} {tk : TE} {tm : TA} {zs : List Str} {k : Nat} {P : D → Prop} (hi : δ[i]? = some (.dat (.lst (txsD zs)))) (hk : Ev F tk δ (· = .int (k : Int))) (h : k ≤ zs.length) (hz : zs.length ≤ 1000) (hx : EvA F tm δ fun ds => ∃ ms, ds = txsD ms ∧ ms.length ≤ 100 ∧ P (.lst (txsD (zs.take k ++ ms ++ zs.drop k)))) :
    Ev F (tOp rCat (tOp rCat (tSl (rSlL F.K) (tVar i) tNoPart (tPart tk)) (tLst tm)) (tSl (rSlL F.K) (tVar i) (tPart tk) tNoPart)) δ P := by
  refine ev_op (ev_op (EvN.ev (en_slL (ev_var hi (eo_none (eo_some (hk.imp fun d e => ⟨_, e, _, rfl, ?_⟩)))))))
  rw [cut_to (by rw [txsD_length]; exact h), txsD_take]
  refine ev_lst (hx.imp fun ds ⟨ms, e, hm, p⟩ => ⟨by rw [e, txsD_length]; omega, ?_⟩)
  subst e
  refine od_cat (by rw [txsD_length, txsD_length, List.length_take]; omega) ?_
  refine EvN.ev (en_slL (ev_var hi (eo_some (hk.imp fun d e => ⟨_, e, eo_none ⟨_, rfl, ?_⟩⟩))))
  rw [cut_from (by rw [txsD_length]; exact h), txsD_drop, txsD_app]
  refine od_cat (by rw [txsD_length, txsD_length, List.length_append, List.length_take, List.length_drop]; omega) ?_
  rw [txsD_app]
  exact p
theorem ev_textE {F : Fm} {δ : List SD} {ta : TA} {E : XK} {P : D → Prop} (h : EvA F ta δ fun ds => ∃ ls, ds = [.lst (txsD ls)] ∧ ls.length ≤ 400 ∧ (∀ l ∈ ls, l.length ≤ 1000) ∧ P (.str (textOf ls))) : Ev F (tCall (spD F.K preTx poTx) [] E ta) δ P :=
  ev_call (h.imp fun ds ⟨ls, e, hn, hw, p⟩ => ⟨⟨ls, e, hn, hw⟩, fun d hd => by
    obtain ⟨ls', e', rfl⟩ := hd
    rw [e] at e'
    obtain rfl := txsD_inj (D.lst.inj (List.cons.inj e').1)
    exact p⟩)
def dueS : Sum Int Int → D
  | .inl k => .tup [.str "InvalidText", .int k]
  | .inr m => .tup [.str "", .int m]
theorem pl_dues : ∀ (os : List (Sum Int Int)), plL (os.map dueS) = true
  | [] => rfl
  | o :: os => by
    show (plD (dueS o) && plL (os.map dueS)) = true
    rw [pl_dues os]
    cases o <;> simp [dueS, plD, plL]
theorem dep_dues : ∀ (os : List (Sum Int Int)), depL (os.map dueS) ≤ 2
  | [] => by simp [depL]
  | o :: os => by
    have := dep_dues os
    have h : dep (dueS o) ≤ 2 := by cases o <;> simp [dueS, dep, depL]
    simp only [List.map_cons, depL]
    omega
theorem plo {os : List (Sum Int Int)} (h : os.length ≤ 100) : plD (.lst (os.map dueS)) = true := by
  simp [plD, pl_dues]
  omega
theorem dpo (os : List (Sum Int Int)) : dep (.lst (os.map dueS)) ≤ 4 := by
  have := dep_dues os
  simp only [dep]
  omega
/-- what a lambda that reads comes to -/
theorem read_no {c : Addr} {t : Str} {k : Int} {d : D} (h : TextR t (.inl k)) (p : poRR c [.str t] d) : False := by
  obtain ⟨ls, rest, e, pc, _, n, rfl, hr⟩ := h
  obtain ⟨ls', rest', r, e', pc', hr', _⟩ := p
  subst e
  obtain ⟨rfl, rfl⟩ := pieces_inj pc pc' (D.str.inj (List.cons.inj e').1)
  rw [hr] at hr'
  cases hr'
theorem read_err {K : PySem.W.Frag} {mg : Str → Option Value} {T : Txt K mg} {t : Str} {k : Int} {C : Addr} {gs : List (Str × D)} (h : TextR t (.inl k)) (p : pxRR T [.str t] C gs) : C = T.c_InvalidText ∧ gs = gx "line" "InvalidText" (.int k) := by
  obtain ⟨ls, rest, e, pc, _, n, rfl, hr⟩ := h
  obtain ⟨v, k', e', h', rfl, rfl⟩ := p
  subst e
  obtain rfl := (List.cons.inj e').1
  rcases h' with ⟨h', _⟩ | ⟨ls', rest', e2, pc', hr'⟩
  · simp [isD, tyName, isTy] at h'
  · obtain ⟨rfl, rfl⟩ := pieces_inj pc pc' (D.str.inj e2)
    rw [hr] at hr'
    cases hr'
    exact ⟨rfl, rfl⟩
theorem read_good {K : PySem.W.Frag} {mg : Str → Option Value} {T : Txt K mg} {t : Str} {m : Int} {C : Addr} {gs : List (Str × D)} (h : TextR t (.inr m)) (p : pxRR T [.str t] C gs) : False := by
  obtain ⟨ls, rest, e, pc, _, r, hr, _⟩ := h
  obtain ⟨v, k', e', h', _⟩ := p
  subst e
  obtain rfl := (List.cons.inj e').1
  rcases h' with ⟨h', _⟩ | ⟨ls', rest', e2, pc', hr'⟩
  · simp [isD, tyName, isTy] at h'
  · obtain ⟨rfl, rfl⟩ := pieces_inj pc pc' (D.str.inj e2)
    rw [hr] at hr'
    cases hr'
theorem read_is {c : Addr} {t : Str} {m : Int} {d : D} (h : TextR t (.inr m)) (p : poRR c [.str t] d) : ∃ r, GoodRd r ∧ d = .ins c (rdF r) ∧ (r.ss.length : Int) = m := by
  obtain ⟨ls, rest, e, pc, _, r, hr, hm⟩ := h
  obtain ⟨ls', rest', r', e', pc', hr', g, rfl⟩ := p
  subst e
  obtain ⟨rfl, rfl⟩ := pieces_inj pc pc' (D.str.inj (List.cons.inj e').1)
  rw [hr] at hr'
  cases hr'
  exact ⟨r, g, rfl, hm⟩
theorem pre_is {t : Str} {o : Sum Int Int} (h : TextR t o) : preRR [.str t] := by
  obtain ⟨ls, rest, e, pc, ok, _⟩ := h
  exact ⟨_, rfl, .inl ⟨ls, rest, by rw [e], pc, ok⟩⟩
section
variable {M' : Addr → Bool} {H' : Hp} {E' : XK} {K : PySem.W.Frag} {mg : Str → Option Value} {δ : List SD} {i : Nat} {t : Str}
def tLenRd (T : Txt K mg) (i : Nat) (E' : XK) : TE := tCB (rOwn1 T.c_Reader (spD K (preR T.c_Reader) (postR T.c_Reader fun r => .int (r.ss.length : Int))) E0 okLen) (tCons (tCall (spR K preRR (poRR T.c_Reader) (pxRR T)) [] E' (tCons (tVar i) tNil)) tNil)
theorem ev_lenBad (T : Txt K mg) {k : Int} {P : D → Prop} (h : TextR t (.inl k)) (ok : RaiseOk ⟨K, none, M', H', E', 0, []⟩ fun C gs => C = T.c_InvalidText ∧ gs = gx "line" "InvalidText" (.int k)) (hi : Ev ⟨K, none, M', H', E', 0, []⟩ (tVar i) δ (· = .str t)) : Ev ⟨K, none, M', H', E', 0, []⟩ (tLenRd T i E') δ P := by
  refine ev_cb (ea_cons (ev_callR (F := ⟨K, none, M', H', E', 0, []⟩) ok (ea_cons (hi.imp fun d e => ea_nil ?_))))
  rw [e]
  exact ⟨pre_is h, fun d hd => (read_no h hd).elim, fun C gs hx => read_err h hx⟩
theorem ev_lenGood (T : Txt K mg) {m : Int} (h : TextR t (.inr m)) (ok : RaiseOk ⟨K, none, M', H', E', 0, []⟩ fun _ _ => False) (hi : Ev ⟨K, none, M', H', E', 0, []⟩ (tVar i) δ (· = .str t)) : Ev ⟨K, none, M', H', E', 0, []⟩ (tLenRd T i E') δ (· = .int m) := by
  refine ev_cb (ea_cons (ev_callR (F := ⟨K, none, M', H', E', 0, []⟩) ok (ea_cons (hi.imp fun d e => ea_nil ?_))))
  rw [e]
  refine ⟨pre_is h, fun d hd => ?_, fun C gs hx => (read_good h hx).elim⟩
  obtain ⟨r, g, rfl, hm⟩ := read_is h hd
  refine ea_nil (cd_lenOwn ⟨r, rfl, g⟩ fun d hd => ?_)
  have n6 := g.ss.n6
  obtain rfl := postR_of hd
  exact ⟨_, rfl, by omega, by omega, by rw [hm]⟩
end
def preGs : List D → Prop := fun ds => ∃ (r : RdT) (a : Nat), ds = [specD r, .lst (txsD (linesR r)), .int (1 + (a : Int))] ∧ GoodRd r ∧ r.ss.length ≤ 4 ∧ a ≤ r.ss.length
abbrev qGs : Str := (Str.ofString "_law_goals_so" ++ Str.ofString ".<locals>.") ++ Str.ofString "<lambda>"
theorem ok_goals_so {P : Program} {w : World} {K : PySem.W.Frag} {mg : Str → Option Value} {base : Heap} (T : Txt K mg) (TB : LamX.TabB base mg T.cA_goals_so T.pA_goals_so) : FnOk P w K mg base CX0 40 T.f_goals_so T.fd_goals_so ["_law_bag", "_law_spec_here", "_law_lines", "_law_at"] (spBT K T.pA_goals_so qGs preGs (fun _ d => d = .bl true)) := by
  refine T.FC_goals_so.ok sc_goals_so (spBT_len fun ds ⟨r, a, e, _⟩ => by rw [e]; rfl) (fun A outer s H vs Q E hr h => ?_)
  refine ⟨_, (pss_cons (ps_par (i := 4) (j := 5) rfl sc_goals_so.nd rfl rfl (by decide) rfl rfl (pa_cons (pe_callB (callLen K) (by rfl) T.b_len (by decide +kernel) (pa_cons (pv 2) pa_nil)) (pa_cons (pe_callTy callStrA (by rfl) T.b_str (by decide +kernel) (pa_cons (pe_op op_add (pe_op op_sub (pe_callB (callLen K) (by rfl) T.b_len (by decide +kernel) (pa_cons (pv 2) pa_nil)) pe_int) (pe_call (ok_draw T) (hr.mono (by decide)) rfl T.g_draw T.k_draw T.bd_draw .nil pass0 (pa_cons (pv 0) (pa_cons pe_int pa_nil)))) pa_nil)) pa_nil)) rfl)
    (pss_cons (ps_set (i := 6) sc_goals_so.nd rfl (Or.inl rfl) (pe_call (ok_far_line T) (hr.mono (by decide)) rfl T.g_far_line T.k_far_line T.bd_far_line .nil pass0 (pa_cons (pv 1) (pa_cons (pe_call (ok_draw T) (hr.mono (by decide)) rfl T.g_draw T.k_draw T.bd_draw .nil pass0 (pa_cons (pv 0) (pa_cons pe_int pa_nil))) (pa_cons (pv 5) pa_nil)))))
    (pss_cons (ps_set (i := 7) sc_goals_so.nd rfl (Or.inl rfl) (pe_call (ok_far_line T) (hr.mono (by decide)) rfl T.g_far_line T.k_far_line T.bd_far_line .nil pass0 (pa_cons (pv 1) (pa_cons (pe_call (ok_draw T) (hr.mono (by decide)) rfl T.g_draw T.k_draw T.bd_draw .nil pass0 (pa_cons (pv 0) (pa_cons pe_int pa_nil))) (pa_cons (pe_call (ok_of T) (hr.mono (by decide)) rfl T.g_of T.k_of T.bd_of .nil pass0 (pa_cons (pv 0) (pa_cons (pe_lst (pa_cons pe_str (pa_cons pe_str (pa_cons pe_str (pa_cons (pe_callTy callStrA (by rfl) T.b_str (by decide +kernel) (pa_cons (pe_op op_add (pv 4) pe_int) pa_nil)) pa_nil))))) pa_nil))) pa_nil)))))
    (pss_cons (ps_set (i := 8) sc_goals_so.nd rfl (Or.inl rfl) (pe_call (ok_text T) (hr.mono (by decide)) rfl T.g_text T.k_text T.bd_text .nil pass0 (pa_cons (pe_op op_cat (pe_op op_cat (pe_slice (slL K) (pv 2) po_none (po_some (pv 3))) (pe_lst (pa_cons (pv 6) pa_nil))) (pe_slice (slL K) (pv 2) (po_some (pv 3)) po_none)) pa_nil)))
    (pss_cons (ps_set (i := 9) sc_goals_so.nd rfl (Or.inl rfl) (pe_lst (pa_cons (pv 8) (pa_cons (pe_slice sl_str (pv 8) po_none (po_some (pe_un un_neg pe_int))) (pa_cons (pe_call (ok_text T) (hr.mono (by decide)) rfl T.g_text T.k_text T.bd_text .nil pass0 (pa_cons (pe_op op_cat (pe_op op_cat (pe_slice (slL K) (pv 2) po_none (po_some (pv 3))) (pe_lst (pa_cons (pv 7) (pa_cons (pe_call (ok_of T) (hr.mono (by decide)) rfl T.g_of T.k_of T.bd_of .nil pass0 (pa_cons (pv 0) (pa_cons (pe_lst (pa_cons (pv 6) (pa_cons (pv 7) pa_nil))) pa_nil))) pa_nil)))) (pe_slice (slL K) (pv 2) (po_some (pv 3)) po_none)) pa_nil)) pa_nil)))))
    (pss_cons (ps_set (i := 10) sc_goals_so.nd rfl (Or.inl rfl) (pe_call (ok_draw T) (hr.mono (by decide)) rfl T.g_draw T.k_draw T.bd_draw .nil pass0 (pa_cons (pv 0) (pa_cons pe_int pa_nil))))
    (pss_cons (ps_set (i := 6) sc_goals_so.nd rfl (Or.inl rfl) (pe_call (ok_far_line T) (hr.mono (by decide)) rfl T.g_far_line T.k_far_line T.bd_far_line .nil pass0 (pa_cons (pv 1) (pa_cons (pe_call (ok_draw T) (hr.mono (by decide)) rfl T.g_draw T.k_draw T.bd_draw .nil pass0 (pa_cons (pv 0) (pa_cons pe_int pa_nil))) (pa_cons (pe_op PfL.op_repS pe_str (pe_op op_add pe_int (pv 10))) pa_nil)))))
    (pss_cons (ps_for PassesOwn.never rfl (piL K (pe_lst (pa_cons (pv 7) (pa_cons (pv 6) pa_nil)))) (pg_name (i := 11) sc_goals_so.nd rfl (Or.inl rfl))
      (pss_one (ps_expr (pe_bm PySem.F.plainAttrs_list PySem.F.slot_list_append PySem.F.type_list_append (mt_append) (pv 9) (pa_cons (pe_call (ok_text T) (hr.mono (by decide)) rfl T.g_text T.k_text T.bd_text .nil pass0 (pa_cons (pe_op op_cat (pe_op op_cat (pe_op op_cat (pe_slice (slL K) (pv 2) po_none (po_some (pv 3))) (pe_lst (pa_cons (pv 11) pa_nil))) (pe_slice (slL K) (pv 2) (po_some (pv 3)) po_none)) (pe_lst (pa_cons pe_str pa_nil))) pa_nil)) pa_nil)))))
    (pss_cons (ps_set (i := 12) sc_goals_so.nd rfl (Or.inl rfl) (pe_lst (pa_cons (pe_ifExp (pt_cmpR op_eq (pv 5) (pe_callTy callStrA (by rfl) T.b_str (by decide +kernel) (pa_cons (pv 4) pa_nil)) (nomark _)) (pe_tup (pa_cons pe_str (pa_cons (pv 3) pa_nil))) (pe_tup (pa_cons pe_str (pa_cons (pv 4) pa_nil)))) pa_nil)))
    (pss_cons (ps_set (i := 12) sc_goals_so.nd rfl (Or.inl rfl) (pe_op op_cat (pv 12) (pe_lst (pa_cons (pe_tup (pa_cons pe_str (pa_cons (pv 4) pa_nil))) (pa_cons (pe_tup (pa_cons pe_str (pa_cons (pv 3) pa_nil))) (pa_cons (pe_tup (pa_cons pe_str (pa_cons (pe_op op_add (pv 4) pe_int) pa_nil))) pa_nil))))))
    (pss_cons (ps_expr (pe_bm PySem.F.plainAttrs_list PySem.F.slot_list_append PySem.F.type_list_append (mt_append) (pv 12) (pa_cons (pe_tup (pa_cons pe_str (pa_cons (pe_ifExp (pt_cmpR op_eq (pv 10) pe_int (nomark _)) (pv 3) (pe_op op_add (pv 4) pe_int)) pa_nil))) pa_nil)))
    (pss_one (ps_ret (pe_call (ok_like T 4) (hr.mono (by decide)) rfl T.g_like T.k_like T.bd_like .nil pass0 (pa_cons (pe_lc (own := [("_law_one", 11)]) rfl sc_goals_so.nd (piL K (pv 9)) (blkOk_by (N := N_goals_so) (sc := defScope s_goals_so) (by decide +kernel)) (fun _ _ _ _ _ => (pg_name (i := 11) sc_goals_so.nd rfl (Or.inr rfl))) (fun _ _ _ _ _ => pts_nil) (fun _ _ _ _ _ => (PfL.pe_tryBN N_goals_so ((cxOf CX0 P w K mg base N_goals_so (Str.ofString "_law_goals_so") (defScope s_goals_so) T.f_goals_so (Value.ref T.cA_goals_so) A outer s H E).nox.env.qual ++ Str.ofString "<lambda>") (ok_try (P := P) (w := w) (base := base) T 36) (hr.mono (by decide)) rfl T.g_try T.k_try T.bd_try blk_knd TB rfl PfL.Par.zero.lam (blk_own (by kernel_rfl)) rfl rfl))) (pa_cons (pv 12) pa_nil)))))))))))))))), ?_⟩
  refine enterBT (N := N_goals_so) h fun M b c ds pre _ => ?_
  obtain ⟨r, a, rfl, g, n4, ha⟩ := pre
  have n1 := g.ss.n0
  have p1 := g.ss.p0
  have p4 := g.ss.p4
  have ll : (linesR r).length = r.ss.length + 1 := linesR_len
  obtain ⟨s0, hs0⟩ : ∃ s, r.ss[0]? = some s := ⟨r.ss[0], List.getElem?_eq_getElem n1⟩
  have gs0 := g.ss.st s0 (List.mem_of_getElem? hs0)
  show Do _ _ [.bag, .dat (specD r), .dat (.lst (txsD (linesR r))), .dat (.int (1 + (a : Int))), .un, .un, .un, .un, .un, .un, .un, .un, .un] _
  refine do_seq (do_par2 (ev_cb (ea_cons (ev_var (d := .lst (txsD (linesR r))) rfl (ea_nil (cd_lenK (k := r.ss.length + 1) (by simp [lenD, txsD, ll]) (by omega) (ev_cb (ea_cons (ev_op (ev_op (ev_cb (ea_cons (ev_var (d := .lst (txsD (linesR r))) rfl (ea_nil (cd_lenK (k := r.ss.length + 1) (by simp [lenD, txsD, ll]) (by omega) (ev_int (od_int ?_)))))))))))))))))
  refine ev_draw rfl rfl (ea_cons (ev_int (ea_nil ⟨2, rfl, by decide, by decide, fun v v0 v1 => od_int (ea_nil (cd_strAI (log2_small (by omega)) ?_))⟩)))
  obtain ⟨v, rfl⟩ := Int.eq_ofNat_of_zero_le v0
  have ev : (((r.ss.length + 1 : Nat) : Int) - 1 + (v : Int)) = ((r.ss.length + v : Nat) : Int) := by omega
  rw [ev]
  show Do _ _ [.bag, .dat (specD r), .dat (.lst (txsD (linesR r))), .dat (.int (1 + (a : Int))), .dat (.int ((r.ss.length + 1 : Nat) : Int)), .dat (.str (numS ((r.ss.length + v : Nat) : Int))), .un, .un, .un, .un, .un, .un, .un] _
  have wv : Word (numS ((r.ss.length + v : Nat) : Int)) := word_num (by omega)
  have okv : goalOk (numS ((r.ss.length + v : Nat) : Int)) = true := by
    unfold goalOk
    rw [numOf_numS (by omega)]
    simp
  have nv : numOf (numS ((r.ss.length + v : Nat) : Int)) = some ((r.ss.length + v : Nat) : Int) := numOf_numS (by omega)
  generalize hg : numS ((r.ss.length + v : Nat) : Int) = z1 at wv okv nv
  -- far
  refine do_letP (fun d => ∃ k, k < 2 ∧ d = .str (farL s0 k z1)) (ev_call (ea_cons (ev_var (d := specD r) rfl (ea_cons (ev_draw rfl rfl (ea_cons (ev_int (ea_nil ⟨2, rfl, by decide, by decide, fun k k0 k1 => ?_⟩)))))))) fun d1 hd1 => ?_
  · obtain ⟨k, rfl⟩ := Int.eq_ofNat_of_zero_le k0
    exact ea_cons (ev_var (d := .str z1) rfl (ea_nil ⟨⟨r, s0, k, z1, rfl, g, hs0, by omega, wv⟩, fun d hd => ⟨k, by omega, far_of hs0 hd⟩⟩))
  obtain ⟨k1, hk1, rfl⟩ := hd1
  have fF := far_fit (k := k1) p1 p4 (by omega) gs0 wv okv
  -- odd
  refine do_letP (fun d => ∃ k z, k < 2 ∧ FarG r.ss.length z ∧ d = .str (farL s0 k z)) (ev_call (ea_cons (ev_var (d := specD r) rfl (ea_cons (ev_draw rfl rfl (ea_cons (ev_int (ea_nil ⟨2, rfl, by decide, by decide, fun k k0 k1 => ?_⟩)))))))) fun d2 hd2 => ?_
  · obtain ⟨k, rfl⟩ := Int.eq_ofNat_of_zero_le k0
    refine ea_cons (Ev.imp (P := fun d => ∃ z, FarG r.ss.length z ∧ d = .str z) (ev_ofL rfl rfl ?_) fun d ⟨z, fz, e⟩ => ea_nil ⟨⟨r, s0, k, z, by rw [e], g, hs0, by omega, fz.w⟩, fun d' hd => ⟨k, z, by omega, fz, far_of hs0 (by rw [e] at hd; exact hd)⟩⟩)
    refine ea_cons (ev_lst (ea_cons (ev_str (ea_cons (ev_str (ea_cons (ev_str (ea_cons (ev_cb (ea_cons (ev_op (ev_var (d := .int ((r.ss.length + 1 : Nat) : Int)) rfl (ev_int (od_int (ea_nil (cd_strAI (log2_small (by omega)) (ea_nil ⟨by simp, ea_nil ⟨_, rfl, by simp, by simp, fun d hd => ?_⟩⟩)))))))))))))))))
    simp only [List.mem_cons, List.not_mem_nil, or_false] at hd
    rcases hd with rfl | rfl | rfl | rfl
    · exact ⟨numS 6, farG_num (by decide) (.inr (by omega)), congrArg D.str six_is⟩
    · exact ⟨numS 99, farG_num (by decide) (.inr (by omega)), congrArg D.str n99_is⟩
    · exact ⟨numS (-1), farG_num (by decide) (.inl (by decide)), congrArg D.str neg_is⟩
    · exact ⟨numS (((r.ss.length + 1 : Nat) : Int) + 1), farG_num (by omega) (.inr (by omega)), rfl⟩
  obtain ⟨k2, z2, hk2, fz2, rfl⟩ := hd2
  have fO := far_fit (k := k2) p1 p4 (by omega) gs0 fz2.w fz2.ok
  show Do _ _ [.bag, .dat (specD r), .dat (.lst (txsD (linesR r))), .dat (.int (1 + (a : Int))), .dat (.int ((r.ss.length + 1 : Nat) : Int)), .dat (.str z1), .dat (.str (farL s0 k1 z1)), .dat (.str (farL s0 k2 z2)), .un, .un, .un, .un, .un] _
  generalize farL s0 k1 z1 = lF at fF
  generalize farL s0 k2 z2 = lO at fO
  have inF := setG_in (m := ((r.ss.length + 1 : Nat) : Int)) gs0 (by omega) hk1 (numOf z1)
  have inO := fun (m : Int) (hm : (r.ss.length : Int) ≤ m) => setG_in (m := m) gs0 hm hk2 (numOf z2)
  generalize setG s0 k1 (numOf z1) = sF at fF inF
  generalize setG s0 k2 (numOf z2) = sO at fO inO
  have a1 : ∀ {F : Fm} {δ : List SD}, δ[3]? = some (.dat (.int (1 + (a : Int)))) → Ev F (tVar 3) δ (· = .int ((a + 1 : Nat) : Int)) := fun h => ev_var h (by congr 1; omega)
  have odl : ∀ {qs : List PS}, (∀ q ∈ qs, Fit (partsOf r.ss) q) → ∀ l ∈ hdL r ((insP r a qs).map Prod.fst), OddL l := fun hq => oddLs g (fit_odd (insP_fit g hq))
  have one : ∀ {q : PS}, Fit (partsOf r.ss) q → ∀ p ∈ [q], Fit (partsOf r.ss) p := fun hq p hp => by rw [List.mem_singleton.mp hp]; exact hq
  have hln : ∀ (qs : List PS), qs.length ≤ 2 → (hdL r ((insP r a qs).map Prod.fst)).length ≤ 7 := fun qs hq => by
    show _ + 1 ≤ 7
    rw [List.length_map, insP_len ha]
    omega
  have tz : ∀ {ls : List Str}, (∀ l ∈ ls, OddL l) → ls.length ≤ 10 → (textOf ls).length ≤ 20000 := fun {ls} h hn => by
    have := text_len (ls := ls) (k := 1000) fun l hl => (h l hl).ok.z
    have : 1001 * ls.length ≤ 1001 * 10 := Nat.mul_le_mul_left _ hn
    omega
  refine do_let (.str (textOf (hdL r ((insP r a [(lF, sF)]).map Prod.fst)))) (ev_textOf (by have := hln [(lF, sF)] (by simp); omega) (fun l hl => (odl (one fF) l hl).ok.z) (ea_cons (ev_bentL rfl (a1 rfl) (by omega) (by omega) (ea_cons (ev_var rfl (ea_nil ⟨[lF], rfl, by simp, ea_nil ?_⟩))))) rfl) ?_
  · rw [insP_fst]
    rfl
  show Do _ _ [.bag, .dat (specD r), .dat (.lst (txsD (linesR r))), .dat (.int (1 + (a : Int))), .dat (.int ((r.ss.length + 1 : Nat) : Int)), .dat (.str z1), .dat (.str lF), .dat (.str lO), .dat (.str (textOf (hdL r ((insP r a [(lF, sF)]).map Prod.fst)))), .un, .un, .un, .un] _
  have t0z := tz (odl (one fF)) (by have := hln [(lF, sF)] (by simp); omega)
  have y0 : TextR (textOf (hdL r ((insP r a [(lF, sF)]).map Prod.fst))) (if v = 1 then .inl (1 + (a : Int)) else .inr ((r.ss.length + 1 : Nat) : Int)) := by
    have e : (insP r a [(lF, sF)]).length = r.ss.length + 1 := insP_len ha _
    rw [nv] at inF
    by_cases hv : v = 1
    · rw [if_pos hv]
      have := tx_goal g (insP_fit g (one fF)) (by rw [e]; omega) (k := a + 1) (by rw [e]; exact insP_bad g ha (by omega) (by rw [inF]; simp [goalIn]; omega))
      rw [show ((a + 1 : Nat) : Int) = 1 + (a : Int) by omega] at this
      exact this
    · rw [if_neg hv]
      have := tx_good g (insP_fit g (one fF)) (by rw [e]; omega) (fun h => by rw [h] at e; simp at e) (by rw [e]; exact insP_ok g (by omega) (by rw [inF]; simp [goalIn]; omega))
      rw [e] at this
      exact this
  have y1 : TextR (cutS (textOf (hdL r ((insP r a [(lF, sF)]).map Prod.fst))) none (some (-1))) (.inl ((r.ss.length + 1 : Nat) : Int)) := by
    have e : (insP r a [(lF, sF)]).length = r.ss.length + 1 := insP_len ha _
    have := tx_cut g (insP_fit g (one fF)) (by rw [e]; omega) (fun h => by rw [h] at e; simp at e)
    rw [e] at this
    exact this
  refine do_seq (do_own (en_lst (ea_cons (ev_var rfl (ea_cons (ev_slS (ev_var rfl (eo_none (eo_some (ev_un (ev_int (negb ⟨-1, rfl, _, rfl, by omega, ?_⟩))))))))))))
  refine ea_cons (ev_textE (ea_cons (ev_bentL rfl (a1 rfl) (by omega) (by omega) (ea_cons (ev_var rfl (ea_cons (Ev.imp (P := fun d => ∃ q : PS, Fit (partsOf r.ss) q ∧ d = .str q.1) (ev_ofL rfl rfl (ea_cons (ev_lst (ea_cons (ev_var rfl (ea_cons (ev_var rfl (ea_nil ⟨by simp, ea_nil ⟨_, rfl, by simp, by simp, fun d hd => ?_⟩⟩)))))))) fun d3 hd3 => ?_)))))))
  · simp only [List.mem_cons, List.not_mem_nil, or_false] at hd
    rcases hd with rfl | rfl
    · exact ⟨(lF, sF), fF, rfl⟩
    · exact ⟨(lO, sO), fO, rfl⟩
  obtain ⟨q, fq, rfl⟩ := hd3
  have two : ∀ p ∈ [(lO, sO), q], Fit (partsOf r.ss) p := fun p hp => by
    simp only [List.mem_cons, List.not_mem_nil, or_false] at hp
    rcases hp with rfl | rfl
    · exact fO
    · exact fq
  refine ea_nil ⟨[lO, q.1], rfl, by simp, ea_nil ⟨_, rfl, ?_, ?_, ea_nil ⟨by simp, fun p => ?_⟩⟩⟩
  · have := hln [(lO, sO), q] (by simp)
    rw [insP_fst] at this
    show ((linesR r).take (a + 1) ++ [(lO, sO), q].map Prod.fst ++ (linesR r).drop (a + 1)).length ≤ _
    omega
  · intro l hl
    refine (odl two l ?_).ok.z
    rw [insP_fst]
    exact hl
  have e2 : (linesR r).take (a + 1) ++ [lO, q.1] ++ (linesR r).drop (a + 1) = hdL r ((insP r a [(lO, sO), q]).map Prod.fst) := by
    rw [insP_fst]
    rfl
  rw [e2]
  have y2 : TextR (textOf (hdL r ((insP r a [(lO, sO), q]).map Prod.fst))) (.inl (1 + (a : Int))) := by
    have e : (insP r a [(lO, sO), q]).length = r.ss.length + 2 := insP_len ha _
    have := tx_goal g (insP_fit g two) (by rw [e]; omega) (k := a + 1) (by rw [e]; exact insP_bad g ha (by omega) (by rw [inO _ (by omega)]; exact fz2.far _ (by omega)))
    rw [show ((a + 1 : Nat) : Int) = 1 + (a : Int) by omega] at this
    exact this
  generalize textOf (hdL r ((insP r a [(lO, sO), q]).map Prod.fst)) = t2 at y2
  generalize hT0 : textOf (hdL r ((insP r a [(lF, sF)]).map Prod.fst)) = t0 at y0 y1 t0z
  generalize cutS t0 none (some (-1)) = t1 at y1
  clear two e2
  show Do _ _ [.bag, .dat (specD r), .dat (.lst (txsD (linesR r))), .dat (.int (1 + (a : Int))), .dat (.int ((r.ss.length + 1 : Nat) : Int)), .dat (.str z1), .dat (.str lF), .dat (.str lO), .dat (.str t0), .own p (.lst (txsD [t0, t1, t2])), .un, .un, .un] _
  refine do_seq (do_set (ev_draw rfl rfl (ea_cons (ev_int (ea_nil ⟨2, rfl, by decide, by decide, fun lg lg0 lg1 => ?_⟩)))))
  obtain ⟨lg, rfl⟩ := Int.eq_ofNat_of_zero_le lg0
  have hlg : lg < 2 := by omega
  show Do _ _ [.bag, .dat (specD r), .dat (.lst (txsD (linesR r))), .dat (.int (1 + (a : Int))), .dat (.int ((r.ss.length + 1 : Nat) : Int)), .dat (.str z1), .dat (.str lF), .dat (.str lO), .dat (.str t0), .own p (.lst (txsD [t0, t1, t2])), .dat (.int (lg : Int)), .un, .un] _
  have won : Word (ones (30 + lg)) ∧ goalOk (ones (30 + lg)) = decide (lg = 0) := by
    match lg, hlg with
    | 0, _ => exact ⟨word_by ones_30.1, ones_30.2⟩
    | 1, _ => exact ⟨word_by ones_31.1, ones_31.2⟩
  refine do_letP (fun d => ∃ k, k < 2 ∧ d = .str (farL s0 k (ones (30 + lg)))) (ev_call (ea_cons (ev_var (d := specD r) rfl (ea_cons (ev_draw rfl rfl (ea_cons (ev_int (ea_nil ⟨2, rfl, by decide, by decide, fun k k0 k1 => ?_⟩)))))))) fun d3 hd3 => ?_
  · obtain ⟨k, rfl⟩ := Int.eq_ofNat_of_zero_le k0
    refine ea_cons (ev_op (ev_str (ev_op (ev_int (ev_var (d := .int (lg : Int)) rfl (od_int (od_repS (by omega) (by omega) (by decide +kernel) ?_)))))))
    have e : ((30 : Int) + (lg : Int)).toNat = 30 + lg := by omega
    rw [e]
    exact ea_nil ⟨⟨r, s0, k, ones (30 + lg), rfl, g, hs0, by omega, won.1⟩, fun d hd => ⟨k, by omega, far_of hs0 hd⟩⟩
  obtain ⟨k3, hk3, rfl⟩ := hd3
  have oE : OddL (farL s0 k3 (ones (30 + lg))) := (far_line p1 p4 (by omega) gs0 won.1).1
  have yE : (lg = 0 → ∃ sE, Fit (partsOf r.ss) (farL s0 k3 (ones (30 + lg)), sE)) ∧ (lg = 1 → stP (farL s0 k3 (ones (30 + lg))) = none) := by
    refine ⟨fun h => ⟨_, far_fit p1 p4 (by omega) gs0 won.1 (by rw [won.2]; simp [h])⟩, fun h => (far_none p1 p4 (by omega) gs0 hk3 won.1 (by rw [won.2]; simp [h])).2⟩
  generalize farL s0 k3 (ones (30 + lg)) = lE at oE yE
  show Do _ _ [.bag, .dat (specD r), .dat (.lst (txsD (linesR r))), .dat (.int (1 + (a : Int))), .dat (.int ((r.ss.length + 1 : Nat) : Int)), .dat (.str z1), .dat (.str lE), .dat (.str lO), .dat (.str t0), .own p (.lst (txsD [t0, t1, t2])), .dat (.int (lg : Int)), .un, .un] _
  let tX : Str → Str := fun l => textOf ((linesR r).take (a + 1) ++ [l] ++ (linesR r).drop (a + 1) ++ [Str.ofString "x"])
  have tXo : ∀ {l : Str}, OddL l → ((linesR r).take (a + 1) ++ [l] ++ (linesR r).drop (a + 1) ++ [Str.ofString "x"]).length ≤ 400 ∧ ∀ x ∈ (linesR r).take (a + 1) ++ [l] ++ (linesR r).drop (a + 1) ++ [Str.ofString "x"], x.length ≤ 1000 := fun {l} ol => by
    have od0 : ∀ x ∈ linesR r, OddL x := fun x hx => by
      rw [linesR_eq] at hx
      exact oddLs g (fit_odd (base_fit g)) x hx
    refine ⟨by simp [List.length_take, List.length_drop]; omega, fun x hx => ?_⟩
    rcases List.mem_append.mp hx with hx | hx
    · rcases List.mem_append.mp hx with hx | hx
      · rcases List.mem_append.mp hx with hx | hx
        · exact (od0 x (List.mem_of_mem_take hx)).ok.z
        · rw [List.mem_singleton.mp hx]
          exact ol.ok.z
      · exact (od0 x (List.mem_of_mem_drop hx)).ok.z
    · rw [List.mem_singleton.mp hx]
      exact x_z
  refine do_seq ?_
  refine do_for (js := [11]) (PX := fun l => l = txsD [lO, lE]) (it_list (ev_lst (ea_cons (ev_var rfl (ea_cons (ev_var rfl (ea_nil ⟨by simp, _, rfl, rfl⟩))))))) (fun l i δ => ∃ z, δ = [.bag, .dat (specD r), .dat (.lst (txsD (linesR r))), .dat (.int (1 + (a : Int))), .dat (.int ((r.ss.length + 1 : Nat) : Int)), .dat (.str z1), .dat (.str lE), .dat (.str lO), .dat (.str t0), .own p (.lst (txsD ([t0, t1, t2] ++ ([lO, lE].take i).map tX))), .dat (.int (lg : Int)), z, .un]) (fun l e => ⟨.un, rfl⟩) ?_ ?_
  · rintro l i x δ rfl hi ⟨z, rfl⟩
    unfold txsD at hi
    rw [List.getElem?_map] at hi
    cases hx : ([lO, lE] : List Str)[i]? with
    | none => rw [hx] at hi; cases hi
    | some y =>
      rw [hx] at hi
      obtain rfl : D.str y = x := Option.some.inj hi
      have oy : OddL y := by
        have := List.mem_of_getElem? hx
        simp only [List.mem_cons, List.not_mem_nil, or_false] at this
        rcases this with rfl | rfl
        · exact fO.1
        · exact oE
      have hlt := (List.getElem?_eq_some_iff.mp hx).1
      refine tg_name (do_append (i := 9) (p := p) rfl (by simp [txsD]; omega) (ev_textE (ea_cons (ev_op (ev_bentL rfl (a1 rfl) (by omega) (by omega) (ea_cons (ev_var rfl (ea_nil ⟨[y], rfl, by simp, ev_lst (ea_cons (ev_str (ea_nil ⟨by simp, od_cat ?_ (ea_nil ⟨(linesR r).take (a + 1) ++ [y] ++ (linesR r).drop (a + 1) ++ [Str.ofString "x"], ?_, (tXo oy).1, (tXo oy).2, .dat (.str y), ?_⟩)⟩)))⟩))))))))
      · rw [txsD_length]
        simp [List.length_take, List.length_drop]
        omega
      · rw [txsD_one, txsD_app]
      · have e : txsD ([t0, t1, t2] ++ ([lO, lE].take i).map tX) ++ [D.str (tX y)] = txsD ([t0, t1, t2] ++ ([lO, lE].take (i + 1)).map tX) := by
          rw [List.take_succ, hx]
          simp [txsD]
        rw [← e]
        rfl
  rintro l δ rfl ⟨z, rfl⟩
  have e5 : [t0, t1, t2] ++ (([lO, lE] : List Str).take (txsD [lO, lE]).length).map tX = [t0, t1, t2, tX lO, tX lE] := rfl
  rw [e5]
  have lx : ∀ {l : Str} {s : StT}, Fit (partsOf r.ss) (l, s) → TextR (tX l) (.inl ((r.ss.length : Int) + 1 + 1)) := fun {l s} hf => by
    have e : (insP r a [(l, s)]).length = r.ss.length + 1 := insP_len ha _
    have := tx_line (more := []) g (insP_fit g (one hf)) (by rw [e]; omega) x_odd (fun x hx => by cases hx) (by simp) (.inl x_no)
    rw [e] at this
    have e2 : hdL r ((insP r a [(l, s)]).map Prod.fst ++ [Str.ofString "x"]) = (linesR r).take (a + 1) ++ [l] ++ (linesR r).drop (a + 1) ++ [Str.ofString "x"] := by
      have := insP_fst r a [(l, s)]
      show hdL r ((insP r a [(l, s)]).map Prod.fst) ++ [Str.ofString "x"] = _
      rw [this]
      rfl
    rw [e2] at this
    exact this
  have y3 := lx fO
  have y4 : TextR (tX lE) (.inl (if lg = 1 then 1 + (a : Int) else (r.ss.length : Int) + 1 + 1)) := by
    by_cases h1 : lg = 1
    · rw [if_pos h1]
      have nb := yE.2 h1
      have e : ((baseP r).take a).length = a := by rw [List.length_take, base_len]; omega
      have := tx_line (ps := (baseP r).take a) (l := lE) (more := ((baseP r).drop a).map Prod.fst ++ [Str.ofString "x"]) g (fun p hp => base_fit g p (List.mem_of_mem_take hp)) (by rw [e]; omega) oE (fun x hx => by
        rcases List.mem_append.mp hx with hx | hx
        · rw [List.map_drop] at hx
          exact fit_odd (base_fit g) x (List.mem_of_mem_drop hx)
        · rw [List.mem_singleton.mp hx]
          exact x_odd) (by simp [base_len]; omega) (.inl nb)
      rw [e] at this
      have e2 : hdL r (((baseP r).take a).map Prod.fst ++ lE :: (((baseP r).drop a).map Prod.fst ++ [Str.ofString "x"])) = (linesR r).take (a + 1) ++ [lE] ++ (linesR r).drop (a + 1) ++ [Str.ofString "x"] := by
        rw [linesR_eq]
        simp [hdL, List.map_take, List.map_drop]
      rw [e2, Int.add_comm] at this
      exact this
    · rw [if_neg h1]
      obtain ⟨sE, fE⟩ := yE.1 (by omega)
      exact lx fE
  generalize tX lO = t3 at y3
  generalize tX lE = t4 at y4
  clear tXo lx yE oE
  refine do_freeze (i := 9) (p := p) rfl ?_
  show Do _ _ [.bag, .dat (specD r), .dat (.lst (txsD (linesR r))), .dat (.int (1 + (a : Int))), .dat (.int ((r.ss.length + 1 : Nat) : Int)), .dat (.str z1), .dat (.str lE), .dat (.str lO), .dat (.str t0), .dat (.lst (txsD [t0, t1, t2, t3, t4])), .dat (.int (lg : Int)), z, .un] _
  let o0 : Sum Int Int := if v = 1 then .inl (1 + (a : Int)) else .inr ((r.ss.length + 1 : Nat) : Int)
  have hv1 : z1 = numS ((r.ss.length + 1 : Nat) : Int) ↔ v = 1 := by
    rw [← hg]
    refine ⟨fun h => ?_, fun h => by rw [h]⟩
    have := numS_inj h
    omega
  refine do_let (.lst [dueS o0]) (Ev.imp (P := (· = .lst [dueS o0])) ?_ fun d e => e) ?_
  refine ev_lst (ea_cons (ev_if (et_B (ev_op (ev_var (d := .str z1) rfl (ev_cb (ea_cons (ev_var (d := .int ((r.ss.length + 1 : Nat) : Int)) rfl (ea_nil (cd_strAI (log2_small (by omega)) (od_eq_str ⟨_, rfl, fun hb => ?_, fun hb => ?_⟩)))))))))))
  · have hv := hv1.mp (of_decide_eq_true hb)
    refine ev_tup (ea_cons (ev_str (ea_cons (ev_var rfl (ea_nil ⟨by simp, ea_nil ⟨by simp, ?_⟩⟩)))))
    show D.lst [.tup [.str "InvalidText", .int (1 + (a : Int))]] = .lst [dueS (if v = 1 then .inl (1 + (a : Int)) else .inr ((r.ss.length + 1 : Nat) : Int))]
    rw [if_pos hv]
    rfl
  · have hv : ¬ v = 1 := fun h => of_decide_eq_false hb (hv1.mpr h)
    refine ev_tup (ea_cons (ev_str (ea_cons (ev_var rfl (ea_nil ⟨by simp, ea_nil ⟨by simp, ?_⟩⟩)))))
    show D.lst [.tup [.str "", .int ((r.ss.length + 1 : Nat) : Int)]] = .lst [dueS (if v = 1 then .inl (1 + (a : Int)) else .inr ((r.ss.length + 1 : Nat) : Int))]
    rw [if_neg hv]
    rfl
  show Do _ _ [.bag, .dat (specD r), .dat (.lst (txsD (linesR r))), .dat (.int (1 + (a : Int))), .dat (.int ((r.ss.length + 1 : Nat) : Int)), .dat (.str z1), .dat (.str lE), .dat (.str lO), .dat (.str t0), .dat (.lst (txsD [t0, t1, t2, t3, t4])), .dat (.int (lg : Int)), z, .dat (.lst [dueS o0])] _
  let os : List (Sum Int Int) := [o0, .inl ((r.ss.length + 1 : Nat) : Int), .inl (1 + (a : Int)), .inl ((r.ss.length : Int) + 1 + 1)]
  refine do_seq (do_own (i := 12) (en_cat (ev_var (d := .lst [dueS o0]) rfl (ev_lst (ea_cons (ev_tup (ea_cons (ev_str (ea_cons (ev_var (d := .int ((r.ss.length + 1 : Nat) : Int)) rfl (ea_nil ⟨by simp, ea_cons (ev_tup (ea_cons (ev_str (ea_cons (ev_var (d := .int (1 + (a : Int))) rfl (ea_nil ⟨by simp, ea_cons (ev_tup (ea_cons (ev_str (ea_cons (ev_op (ev_var (d := .int ((r.ss.length + 1 : Nat) : Int)) rfl (ev_int (od_int (ea_nil ⟨by simp, ea_nil ⟨by simp, _, _, rfl, rfl, by simp, fun p2 => ?_⟩⟩)))))))))⟩))))))⟩)))))))))))
  have eos : ([dueS o0] ++ [.tup [.str "InvalidText", .int ((r.ss.length + 1 : Nat) : Int)], .tup [.str "InvalidText", .int (1 + (a : Int))], .tup [.str "InvalidText", .int (((r.ss.length + 1 : Nat) : Int) + 1)]] : List D) = os.map dueS := by
    have : (((r.ss.length + 1 : Nat) : Int) + 1) = (r.ss.length : Int) + 1 + 1 := by omega
    rw [this]
    rfl
  show Do _ _ [.bag, .dat (specD r), .dat (.lst (txsD (linesR r))), .dat (.int (1 + (a : Int))), .dat (.int ((r.ss.length + 1 : Nat) : Int)), .dat (.str z1), .dat (.str lE), .dat (.str lO), .dat (.str t0), .dat (.lst (txsD [t0, t1, t2, t3, t4])), .dat (.int (lg : Int)), z, .own p2 (.lst ([dueS o0] ++ [.tup [.str "InvalidText", .int ((r.ss.length + 1 : Nat) : Int)], .tup [.str "InvalidText", .int (1 + (a : Int))], .tup [.str "InvalidText", .int (((r.ss.length + 1 : Nat) : Int) + 1)]]))] _
  rw [eos]
  let o4 : Sum Int Int := .inl (if lg = 1 then 1 + (a : Int) else (r.ss.length : Int) + 1 + 1)
  refine do_seq (do_append (i := 12) (p := p2) rfl (by simp [os]) (Ev.imp (P := (· = dueS o4)) (ev_tup (ea_cons (ev_str (ea_cons (ev_if (et_B (ev_op (ev_var (d := .int (lg : Int)) rfl (ev_int (od_eq_int ⟨_, rfl, fun hb => ?_, fun hb => ?_⟩)))))))))) fun d e => ?_))
  · have h1 : lg = 1 := by have := of_decide_eq_true hb; omega
    refine ev_var rfl (ea_nil ⟨by simp, ?_⟩)
    show _ = D.tup [.str "InvalidText", .int (if lg = 1 then _ else _)]
    rw [if_pos h1]
  · have h1 : ¬ lg = 1 := by have := of_decide_eq_false hb; omega
    refine ev_op (ev_var (d := .int ((r.ss.length + 1 : Nat) : Int)) rfl (ev_int (od_int (ea_nil ⟨by simp, ?_⟩))))
    show _ = D.tup [.str "InvalidText", .int (if lg = 1 then _ else _)]
    rw [if_neg h1]
    congr 3
  subst e
  refine do_freeze (i := 12) (p := p2) (ds := .lst (os.map dueS ++ [dueS o4])) rfl ?_
  show Do _ _ [.bag, .dat (specD r), .dat (.lst (txsD (linesR r))), .dat (.int (1 + (a : Int))), .dat (.int ((r.ss.length + 1 : Nat) : Int)), .dat (.str z1), .dat (.str lE), .dat (.str lO), .dat (.str t0), .dat (.lst (txsD [t0, t1, t2, t3, t4])), .dat (.int (lg : Int)), z, .dat (.lst ((os ++ [o4]).map dueS))] _
  have tis : ∀ (i : Nat) (x : Str), [t0, t1, t2, t3, t4][i]? = some x → ∃ o, (os ++ [o4])[i]? = some o ∧ TextR x o := fun i x hx => by
    match i, hx with
    | 0, hx => exact ⟨_, rfl, by obtain rfl := Option.some.inj hx; exact y0⟩
    | 1, hx => exact ⟨_, rfl, by obtain rfl := Option.some.inj hx; exact y1⟩
    | 2, hx => exact ⟨_, rfl, by obtain rfl := Option.some.inj hx; exact y2⟩
    | 3, hx => exact ⟨_, rfl, by obtain rfl := Option.some.inj hx; exact y3⟩
    | 4, hx => exact ⟨_, rfl, by obtain rfl := Option.some.inj hx; exact y4⟩
    | n + 5, hx => exact absurd hx (by simp)
  have osl : (os ++ [o4]).length = 5 := rfl
  generalize os ++ [o4] = oo at tis osl
  generalize hx5 : [t0, t1, t2, t3, t4] = xs at tis
  have xl : xs.length = 5 := by rw [← hx5]; rfl
  refine do_ret (ev_like (ea_cons (EvN.ev ?_)))
  refine en_lc (js := [11]) (PX := fun l => l = txsD xs) (it_list (ev_var rfl ⟨_, rfl, rfl⟩)) (fun l e => by rw [e, txsD_length, xl]; decide) (by decide) (fun l i acc => acc = (oo.take i).map dueS) (fun l e => rfl) ?_ ?_
  · rintro l i y acc rfl hi rfl
    unfold txsD at hi
    rw [List.getElem?_map] at hi
    cases hx : xs[i]? with
    | none => rw [hx] at hi; cases hi
    | some x =>
      rw [hx] at hi
      obtain rfl := Option.some.inj hi
      obtain ⟨o, ho, it⟩ := tis i x hx
      refine tg_name (et_yes ⟨fun _ => ?_, fun h => nomatch h⟩)
      refine Ev.imp (P := (· = dueS o)) (ev_tryB rfl rfl rfl (.inl rfl) fun cells hc f F' hs li eq => ?_) fun d e => ?_
      · cases o with
        | inl k => exact lam_bad (tLenRd T 11) [11] _ _ _ _ (e_text T) li eq hc .zero (lsc_by (by kernel_rfl)) (fun c dV A outer s H0 E' hr => (pe_callB (call_lenOwn T.dn_Reader_len T.fn_Reader_len (raw0 (ok_Reader_len T) T.bd_Reader_len) (hr.mono (by decide)) pass0) (by rfl) T.b_len (by decide +kernel) (pa_cons (pe_call (ok_read_reader T) (hr.mono (by decide)) rfl T.g_read_reader T.k_read_reader T.bd_read_reader .nil passX (pa_cons (pv 11) pa_nil)) pa_nil))) (hj1 rfl) fun M' H' E' ok => ev_lenBad T it ok (ev_cap rfl (by decide) rfl)
        | inr m => exact lam_good (tLenRd T 11) [11] _ li eq hc .zero (lsc_by (by kernel_rfl)) (fun c dV A outer s H0 E' hr => (pe_callB (call_lenOwn T.dn_Reader_len T.fn_Reader_len (raw0 (ok_Reader_len T) T.bd_Reader_len) (hr.mono (by decide)) pass0) (by rfl) T.b_len (by decide +kernel) (pa_cons (pe_call (ok_read_reader T) (hr.mono (by decide)) rfl T.g_read_reader T.k_read_reader T.bd_read_reader .nil passX (pa_cons (pv 11) pa_nil)) pa_nil))) (hj1 rfl) fun M' H' E' ok => ev_lenGood T it ok (ev_cap rfl (by decide) rfl)
      · rw [e, List.take_succ, ho]
        simp
  rintro l ds rfl rfl
  have e11 : oo.take (txsD xs).length = oo := List.take_of_length_le (by rw [txsD_length, xl, osl]; exact Nat.le_refl _)
  rw [e11]
  refine ea_cons (ev_var rfl (ea_nil ⟨_, _, rfl, plo (by omega), plo (by omega), dpo _, ?_⟩))
  rw [likeD_self _ (plo (by omega))]

end Pf

set_option maxHeartbeats 16000000
namespace Pf
open PySem L2 PfL RZ
local macro_rules | `(tactic| walk_at "ev") => `(tactic| first
  | ((with_reducible refine' ev_var ?h ?_); (case h => rfl))
  | with_reducible refine ev_int ?_
  | with_reducible refine ev_bl ?_
  | with_reducible refine ev_str ?_
  | with_reducible refine ev_non ?_
  | with_reducible refine ev_ty ?_
  | with_reducible refine ev_op ?_
  | with_reducible refine ev_un ?_
  | with_reducible refine ev_chain ?_
  | with_reducible refine ev_if ?_
  | with_reducible refine ev_and ?_
  | with_reducible refine ev_or ?_
  | with_reducible refine ev_not ?_
  | with_reducible refine ev_lst ?_
  | with_reducible refine ev_tup ?_
  | with_reducible refine ea_nil ?_
  | with_reducible refine ea_cons ?_
  | with_reducible refine ev_cb ?_
  | with_reducible refine et_test ?_
  | with_reducible refine et_B ?_
  | with_reducible refine et_and ?_
  | with_reducible refine et_or ?_
  | with_reducible refine et_not ?_
  | with_reducible refine et_yes ?_
  | with_reducible refine eo_none ?_
  | with_reducible refine eo_some ?_
  | with_reducible refine ev_slS ?_
  | with_reducible refine od_int ?_
  | with_reducible refine od_bl ?_
  | with_reducible refine od_eq_int ?_
  | with_reducible refine od_ne_int ?_
  | with_reducible refine od_eq_bl ?_
  | with_reducible refine od_ne_bl ?_
  | with_reducible refine od_eq_str ?_
  | with_reducible refine od_ne_str ?_
  | with_reducible refine od_leS ?_
  | with_reducible refine ud_isN ?_
  | with_reducible refine ud_notN ?_
  | with_reducible refine do_seq ?_
  | with_reducible refine do_set ?_
  | with_reducible refine do_ret ?_
  | with_reducible refine do_retN ?_
  | with_reducible refine do_if ?_
  | with_reducible refine do_next ?_
  | with_reducible refine tg_name ?_
  | with_reducible refine tgs_nil ?_
  | with_reducible refine tgs_cons ?_)
/-! ### into a law beside which other defs make lambdas -/
def slotsT (N : List Str) : List SD := .un :: .bag :: List.replicate (N.length - 2) .un
theorem lawInTs {K : PySem.W.Frag} {N : List Str} {vs : List V} {H : Hp} {t : TS} {Q : VK} {E E' : XK} {Ts : List (Addr × Str)} (h : spLawTs K (Ts.map Prod.fst) vs H Q E) (hN : 2 ≤ N.length)
    (hb : ∀ (b c : Addr) (H1 : Hp) (M0 : Addr → Bool) (E : XK), Do ⟨K, some b, M0, H1, E, c, Ts⟩ t (slotsT N) { nx := fun _ => False, rt := fun d => d = .bl true }) :
    tSeq (tAsg (tCall (spOpen K) [] E' (tCons (tVar 0) tNil)) (gName 1)) t { nx := fun _ H' => Q .non H', rt := Q } (L2.start N vs) H := by
  obtain ⟨a, ns, rfl, hs, hn, hP, qq⟩ := h
  have hl : (L2.start N [V.ref a]).length = N.length := by
    unfold L2.start
    rw [List.length_append, List.length_replicate, List.length_map, List.length_cons, List.length_nil]
    omega
  refine ⟨.ref a, rfl, a, ns, rfl, hs, hn, fun b c H1 hb0 s1 ba => ?_⟩
  show t { nx := fun _ H' => Q .non H', rt := Q } ((L2.start N [V.ref a]).set 1 (some (.ref b))) H1
  refine lawDoTs (δ := slotsT N) ba (fun p hp => LamX.TabS.nil (s1 _ _ (hP p.1 (List.mem_map_of_mem hp)))) ?_ ?_ (fun i x h => ?_) (hb b c H1) qq
  · unfold slotsT
    rw [List.length_set, hl, List.length_cons, List.length_cons, List.length_replicate]
    omega
  · rw [List.getElem?_set_self (by rw [hl]; omega)]
  · unfold slotsT at h
    match i, h with
    | 0, h => exact .inl (Option.some.inj h).symm
    | 1, h => exact .inr ⟨rfl, (Option.some.inj h).symm⟩
    | i + 2, h => exact .inl (List.eq_of_mem_replicate (List.mem_of_getElem? h))
/-! ### the law -/
def heads : List Str := ["", "reader", "reader row up", "Reader row up number", "reader rows up number", "x", "reader row number up", "reader  row up number", "reader row up number ", " reader row up number", "reader row up number 1", "state 1 - - 1"]
def odds : List Str := ["", "state", "state 1 - -", "State 1 - - 1", "state 0 - - 1", "state 10 - - 1", "x", "state 01 - - 1", "state +1 - - 1", "state 1  - - 1", "state 1 - - 1 ", "state 1 - - 0", "state 1 - - 10", "state 1 x - 1", "state 1 - 00 1", "state - - - 1", "state 1 - - -", "state 1 - - 1 1 1 1 1", "state 1 -0 - 1", "reader row up number"]
theorem heads_ok : (heads.all fun h => (oddB h && (headQ h).isNone)) = true := by decide +kernel
theorem odds_ok : (odds.all fun l => (oddB l && (stP l).isNone)) = true := by decide +kernel
theorem head_bad {h : Str} (hh : h ∈ heads) : OddL h ∧ headQ h = none := by
  have := List.all_eq_true.mp heads_ok h hh
  rw [Bool.and_eq_true] at this
  exact ⟨oddL_by this.1, by simpa using this.2⟩
theorem odd_bad {l : Str} (hl : l ∈ odds) : OddL l ∧ stP l = none := by
  have := List.all_eq_true.mp odds_ok l hl
  rw [Bool.and_eq_true] at this
  exact ⟨oddL_by this.1, by simpa using this.2⟩
def wideT (P : Int) : Str := Str.ofString "state 1 - - " ++ Txt.join (Str.ofString " ") (List.replicate (P % 4 + 1).toNat (Str.ofString "1"))
def p4 : List Int := [1, 2, 3, 4]
theorem wide_all : (p4.all fun P => oddB (wideT P) && (match stP (wideT P) with | some s => decide ((s.2.1.length : Int) = P % 4 + 1) | none => false)) = true := by decide +kernel
theorem wide_ok {P : Int} (h1 : 1 ≤ P) (h4 : P ≤ 4) : OddL (wideT P) ∧ ∃ s, stP (wideT P) = some s ∧ (s.2.1.length : Int) ≠ P := by
  have hm : P ∈ p4 := by
    have : P = 1 ∨ P = 2 ∨ P = 3 ∨ P = 4 := by omega
    simp only [p4, List.mem_cons, List.not_mem_nil, or_false]
    exact this
  have := List.all_eq_true.mp wide_all P hm
  rw [Bool.and_eq_true] at this
  refine ⟨oddL_by this.1, ?_⟩
  cases hs : stP (wideT P) with
  | none => rw [hs] at this; exact absurd this.2 (by simp)
  | some s =>
    rw [hs] at this
    have := of_decide_eq_true this.2
    exact ⟨s, rfl, by omega⟩
def llD (xs : List (List Str)) : List D := xs.map fun l => .lst (txsD l)
def rowsT (r : RdT) (a : Nat) (h l : Str) (P : Int) : List (List Str) := [[h] ++ (linesR r).drop 1, (linesR r).take (a + 1) ++ [l] ++ (linesR r).drop (a + 1), linesR r ++ [wideT P], (linesR r).take 1]
def textsT (r : RdT) (a : Nat) (h l : Str) (P : Int) : List Str := (rowsT r a h l P).map textOf ++ [cutS (textOf (linesR r)) none (some (-1)), textOf (linesR r) ++ Str.ofString "x"]
def duesT (r : RdT) (a : Nat) : List Int := [0, 1 + (a : Int), (r.ss.length : Int) + 1, 1, r.ss.length, (r.ss.length : Int) + 1]
theorem base_tex {r : RdT} (g : GoodRd r) {P : Int} (h1 : 1 ≤ P) (h4 : P ≤ 4) (hP : ((partsOf r.ss : Nat) : Int) = P) (n4 : r.ss.length ≤ 4) {a : Nat} (ha : a ≤ r.ss.length) {h l : Str} (hh : h ∈ heads) (hl : l ∈ odds) : ∀ (i : Nat) (x : Str), (textsT r a h l P)[i]? = some x → ∃ k : Int, (duesT r a)[i]? = some k ∧ TextR x (.inl k) := by
  have n1 := g.ss.n0
  have bf := base_fit g
  have bl := base_len r
  have oL : ∀ x ∈ (baseP r).map Prod.fst, OddL x := fit_odd bf
  have eL : linesR r = hdL r ((baseP r).map Prod.fst) := linesR_eq r
  have hb := head_bad hh
  have lb := odd_bad hl
  obtain ⟨ow, sw, hsw, hne⟩ := wide_ok h1 h4
  have t0 : TextR (textOf ([h] ++ (linesR r).drop 1)) (.inl 0) := by
    rw [eL]
    refine TextR.bare (TextR.of (fun x hx => ?_) (by simp [hdL, bl]; omega) em_free em_z ⟨0, rfl, readR_head hb.2⟩)
    rcases List.mem_append.mp hx with hx | hx
    · rw [List.mem_singleton.mp hx]
      exact hb.1
    · exact oL x hx
  have t1 : TextR (textOf ((linesR r).take (a + 1) ++ [l] ++ (linesR r).drop (a + 1))) (.inl (1 + (a : Int))) := by
    have e : ((baseP r).take a).length = a := by rw [List.length_take, bl]; omega
    have := tx_line (ps := (baseP r).take a) (l := l) (more := ((baseP r).drop a).map Prod.fst) g (fun p hp => bf p (List.mem_of_mem_take hp)) (by rw [e]; omega) lb.1 (fun x hx => by
      rw [List.map_drop] at hx
      exact oL x (List.mem_of_mem_drop hx)) (by simp [bl]; omega) (.inl lb.2)
    rw [e, Int.add_comm] at this
    have e2 : hdL r (((baseP r).take a).map Prod.fst ++ l :: ((baseP r).drop a).map Prod.fst) = (linesR r).take (a + 1) ++ [l] ++ (linesR r).drop (a + 1) := by
      rw [eL]
      simp [hdL, List.map_take, List.map_drop]
    rw [e2] at this
    exact this
  have t2 : TextR (textOf (linesR r ++ [wideT P])) (.inl ((r.ss.length : Int) + 1)) := by
    have := tx_line (ps := baseP r) (l := wideT P) (more := []) g bf (by omega) ow (fun x hx => by cases hx) (by simp) (.inr ⟨sw, hsw, ?_⟩)
    · rw [bl] at this
      rw [eL]
      exact this
    · rw [base_snd]
      unfold misfit
      obtain ⟨s0, rr, hss⟩ : ∃ s0 rr, r.ss = s0 :: rr := List.exists_cons_of_ne_nil (fun e => by rw [e] at n1; simp at n1)
      have : partsOf r.ss = s0.2.1.length := by rw [hss]; rfl
      rw [hss]
      show (_ || decide _) = true
      rw [decide_eq_true (p := sw.2.1.length ≠ s0.2.1.length) (by omega), Bool.or_true]
  have t3 : TextR (textOf ((linesR r).take 1)) (.inl 1) := by
    have := TextR.bare (tx_rest (ps := []) (P := 1) g (fun p hp => by cases hp) (by simp) em_free em_z (.inr rfl))
    exact this
  have t4 : TextR (cutS (textOf (linesR r)) none (some (-1))) (.inl (r.ss.length : Int)) := by
    have := tx_cut g bf (by omega) (fun e => by rw [e] at bl; simp at bl; omega)
    rw [bl, ← eL] at this
    exact this
  have t5 : TextR (textOf (linesR r) ++ Str.ofString "x") (.inl ((r.ss.length : Int) + 1)) := by
    have := tx_rest (rest := Str.ofString "x") g bf (by omega) x_free x_z (.inl x_ne)
    rw [bl, ← eL] at this
    exact this
  intro i x hx
  match i, hx with
  | 0, hx => exact ⟨_, rfl, by obtain rfl := Option.some.inj hx; exact t0⟩
  | 1, hx => exact ⟨_, rfl, by obtain rfl := Option.some.inj hx; exact t1⟩
  | 2, hx => exact ⟨_, rfl, by obtain rfl := Option.some.inj hx; exact t2⟩
  | 3, hx => exact ⟨_, rfl, by obtain rfl := Option.some.inj hx; exact t3⟩
  | 4, hx => exact ⟨_, rfl, by obtain rfl := Option.some.inj hx; exact t4⟩
  | 5, hx => exact ⟨_, rfl, by obtain rfl := Option.some.inj hx; exact t5⟩
  | n + 6, hx => exact absurd hx (by simp [textsT, rowsT])
def sevenL (r : RdT) (l : Str) (m : Nat) : List Str := [lineOf (headR r)] ++ List.replicate m l ++ [Str.ofString "x"]
theorem seven_is {r : RdT} (g : GoodRd r) {s : StT} (hs : r.ss[0]? = some s) {m : Nat} (hm : m = 6 ∨ m = 7) : TextR (Txt.join (Str.ofString "\n") (sevenL r (RL s) m)) (.inl 7) := by
  have e : Txt.join (Str.ofString "\n") (sevenL r (RL s) m) = textOf (hdL r (List.replicate m (RL s))) ++ Str.ofString "x" := (join_nlsR _ _).symm
  have n6 := g.ss.n6
  have gs := g.ss.st s (List.mem_of_getElem? hs)
  have gl := good_line g.ss.p0 g.ss.p4 (by omega) gs
  have fit : ∀ p ∈ List.replicate 6 (RL s, s), Fit (partsOf r.ss) p := fun p hp => by
    rw [List.eq_of_mem_replicate hp]
    exact ⟨gl.1, gl.2, gs.al⟩
  have e6 : (List.replicate 6 (RL s, s)).map Prod.fst = List.replicate 6 (RL s) := rfl
  rw [e]
  rcases hm with rfl | rfl
  · have := tx_rest (rest := Str.ofString "x") g fit (by simp) x_free x_z (.inl x_ne)
    rw [e6] at this
    exact this
  · refine TextR.of (oddLs g fun x hx => ?_) (by simp) x_free x_z ⟨7, rfl, ?_⟩
    · rw [List.eq_of_mem_replicate hx]
      exact gl.1
    · have := readR_bad (rest := Str.ofString "x") (l := RL s) (more := []) g fit (by simp) (.inr ⟨s, gl.2, rfl⟩)
      rw [e6] at this
      exact this
def OddT (d : D) : Prop := (plD d = true ∧ isD d "str" = false) ∨ d = .str (textOf [] ++ Str.ofString "") ∨ d = .str (textOf [] ++ Str.ofString "x")
theorem odd_is {d : D} (h : OddT d) (hs : isD d "str" = true) : ∃ t, d = .str t ∧ TextR t (.inl 0) := by
  rcases h with ⟨_, h⟩ | rfl | rfl
  · rw [h] at hs; cases hs
  · exact ⟨_, rfl, [], _, rfl, ⟨fun l h => (by cases h), em_free, by decide +kernel⟩, fun l h => (by cases h), 0, rfl, rfl⟩
  · exact ⟨_, rfl, [], _, rfl, ⟨fun l h => (by cases h), x_free, by decide +kernel⟩, fun l h => (by cases h), 0, rfl, rfl⟩
theorem odd_pre {d : D} (h : OddT d) : preRR [d] ∧ (∀ {c : Addr} {y : D}, ¬ poRR c [d] y) ∧ ∀ {K : PySem.W.Frag} {mg : Str → Option Value} {T : Txt K mg} {C : Addr} {gs : List (Str × D)}, pxRR T [d] C gs → C = T.c_InvalidText ∧ gs = gx "line" "InvalidText" (.int 0) := by
  cases hs : isD d "str" with
  | true =>
    obtain ⟨t, rfl, it⟩ := odd_is h hs
    exact ⟨pre_is it, fun p => read_no it p, fun p => read_err it p⟩
  | false =>
    have hp : plD d = true := by
      rcases h with ⟨h, _⟩ | rfl | rfl
      · exact h
      · cases hs
      · cases hs
    refine ⟨⟨d, rfl, .inr ⟨hp, hs⟩⟩, fun p => ?_, fun p => ?_⟩
    · obtain ⟨ls, rest, r, e, _⟩ := p
      rw [(List.cons.inj e).1] at hs
      cases hs
    · obtain ⟨v, k, e, h', hx⟩ := p
      obtain rfl := (List.cons.inj e).1
      rcases h' with ⟨_, rfl⟩ | ⟨ls, rest, e2, _⟩
      · exact hx
      · rw [e2] at hs
        cases hs
open PySem PySem.Spec L2 PfL LamX PfT HandSPX PyProof.Rows in
theorem ev_tryB2 {P : Program} {w : World} {K : PySem.W.Frag} {mg : Str → Option Value} {base : Heap} {k : Nat} {ct : List Value} {N : List Str} {δ : List SD} {F : Fm} {PA : Addr} {q : Str} {params : Arguments} {body : Expr} {scope : Scope} {Pd : D → Prop} (hK : F.K = K) (hN : δ.length = N.length) (hm : (PA, q) ∈ F.T) (hu : ∀ p ∈ F.T, p.1 = PA → p = (PA, q)) (hp : params = par0 ∨ params.defaults ≠ [])
    (h : ∀ cells : List (Str × Addr), (∀ y ∈ scope.names, y.2 = .free → ∃ c, cells.lookup y.1 = some c) → ∀ f F' hs, LamIs f F' hs → F' = ⟨q, params, body, scope, cloFrom cells scope.names [], F'.c, F'.dV⟩ → LamOk P w K mg base k ct N cells δ f hs Pd) :
    Ev F (tTryB N (spTry P w K mg base (k + 1) ct) PA q params body scope) δ Pd := fun M σ H Q c g cl hcl =>
  ev_fz1 hK hN (ev_lam2 hm hu hp fun f F' hs li eq => ⟨f, hs, rfl, h cl hcl f F' hs li eq⟩) M σ H Q c g
def rJoinK (K : PySem.W.Frag) : V → List V → Hp → VK → Prop := fun x xs H Q => ∃ a p, ∃ ys : List Str, x = .str a ∧ xs = [.ref p] ∧ (SqL K H p (ys.map V.str) ∨ SqT K H p (ys.map V.str)) ∧ (ys.map (·.length)).sum + ys.length * a.length ≤ 16777216 ∧ Q (.str (Txt.join a ys)) H
theorem flat_one {x : D} : ∀ k : Nat, (List.replicate k [x]).flatten = List.replicate k x
  | 0 => rfl
  | k + 1 => by rw [List.replicate_succ, List.flatten_cons, flat_one k]; rfl
theorem ok_law {P : Program} {w : World} {K : PySem.W.Frag} {mg : Str → Option Value} {base : Heap} (T : Txt K mg) (TB : LamX.TabB base mg T.cL T.pL) (TB2 : LamX.TabB base mg T.cA_goals_so T.pA_goals_so) : FnOk P w K mg base CX0 44 T.f_law T.fd_law ["_law_script"] (spLawTs K [T.pL, T.pA_goals_so]) := by
  refine T.FC_law.ok sc_law (fun vs H Q E h => ?_) (fun A outer s H vs Q E hr h => ?_)
  · obtain ⟨a, ns, rfl, _⟩ := h
    rfl
  refine ⟨_, (pss_cons (ps_set (i := 1) sc_law.nd rfl (Or.inl rfl) (pe_call (ok_open T) (hr.mono (by decide)) rfl T.g_open T.k_open T.bd_open .nil pass0 (pa_cons (pv 0) pa_nil)))
    (pss_cons (ps_for PassesOwn.never rfl (pi_range1 (by rfl) T.b_range (pa_cons pe_int pa_nil)) (pg_name (i := 2) sc_law.nd rfl (Or.inl rfl))
      (pss_cons (ps_set (i := 3) sc_law.nd rfl (Or.inl rfl) (pe_op op_add pe_int (pe_call (ok_draw T) (hr.mono (by decide)) rfl T.g_draw T.k_draw T.bd_draw .nil pass0 (pa_cons (pv 1) (pa_cons pe_int pa_nil)))))
      (pss_cons (ps_set (i := 4) sc_law.nd rfl (Or.inl rfl) (pe_call (ok_any_spec T) (hr.mono (by decide)) rfl T.g_any_spec T.k_any_spec T.bd_any_spec .nil pass0 (pa_cons (pv 1) (pa_cons (pv 3) (pa_cons pe_int pa_nil)))))
      (pss_cons (ps_set (i := 5) sc_law.nd rfl (Or.inl rfl) (pe_call (ok_reader_lines T) (hr.mono (by decide)) rfl T.g_reader_lines T.k_reader_lines T.bd_reader_lines .nil pass0 (pa_cons (pv 4) pa_nil)))
      (pss_cons (ps_par (i := 6) (j := 7) rfl sc_law.nd rfl rfl (by decide) rfl rfl (pa_cons (pe_callB (callLen K) (by rfl) T.b_len (by decide +kernel) (pa_cons (pv 5) pa_nil)) (pa_cons (pe_op op_add pe_int (pe_call (ok_draw T) (hr.mono (by decide)) rfl T.g_draw T.k_draw T.bd_draw .nil pass0 (pa_cons (pv 1) (pa_cons (pe_callB (callLen K) (by rfl) T.b_len (by decide +kernel) (pa_cons (pv 5) pa_nil)) pa_nil)))) pa_nil)) rfl)
      (pss_cons (ps_set (i := 8) sc_law.nd rfl (Or.inl rfl) (pe_call (ok_of T) (hr.mono (by decide)) rfl T.g_of T.k_of T.bd_of .nil pass0 (pa_cons (pv 1) (pa_cons (pe_lst (pa_cons pe_str (pa_cons pe_str (pa_cons pe_str (pa_cons pe_str (pa_cons pe_str (pa_cons pe_str (pa_cons pe_str (pa_cons pe_str (pa_cons pe_str (pa_cons pe_str (pa_cons pe_str (pa_cons pe_str pa_nil))))))))))))) pa_nil))))
      (pss_cons (ps_set (i := 9) sc_law.nd rfl (Or.inl rfl) (pe_call (ok_of T) (hr.mono (by decide)) rfl T.g_of T.k_of T.bd_of .nil pass0 (pa_cons (pv 1) (pa_cons (pe_lst (pa_cons pe_str (pa_cons pe_str (pa_cons pe_str (pa_cons pe_str (pa_cons pe_str (pa_cons pe_str (pa_cons pe_str (pa_cons pe_str (pa_cons pe_str (pa_cons pe_str (pa_cons pe_str (pa_cons pe_str (pa_cons pe_str (pa_cons pe_str (pa_cons pe_str (pa_cons pe_str (pa_cons pe_str (pa_cons pe_str (pa_cons pe_str (pa_cons pe_str pa_nil))))))))))))))))))))) pa_nil))))
      (pss_cons (ps_set (i := 10) sc_law.nd rfl (Or.inl rfl) (pe_op op_add_str pe_str (pe_join pe_str (pe_op op_rep (pe_lst (pa_cons pe_str pa_nil)) (pe_op op_add (pe_op op_mod (pv 3) pe_int) pe_int)))))
      (pss_cons (ps_set (i := 11) sc_law.nd rfl (Or.inl rfl) (pe_call (ok_text T) (hr.mono (by decide)) rfl T.g_text T.k_text T.bd_text .nil pass0 (pa_cons (pv 5) pa_nil)))
      (pss_cons (ps_set (i := 12) sc_law.nd rfl (Or.inl rfl) (pe_lst (pa_cons (pe_op op_cat (pe_lst (pa_cons (pv 8) pa_nil)) (pe_slice (slL K) (pv 5) (po_some pe_int) po_none)) (pa_cons (pe_op op_cat (pe_op op_cat (pe_slice (slL K) (pv 5) po_none (po_some (pv 7))) (pe_lst (pa_cons (pv 9) pa_nil))) (pe_slice (slL K) (pv 5) (po_some (pv 7)) po_none)) (pa_cons (pe_op op_cat (pv 5) (pe_lst (pa_cons (pv 10) pa_nil))) (pa_cons (pe_slice (slL K) (pv 5) po_none (po_some pe_int)) pa_nil))))))
      (pss_cons (ps_set (i := 13) sc_law.nd rfl (Or.inl rfl) (pe_op op_cat (pe_lc (own := [("_law_one", 17)]) rfl sc_law.nd (piL K (pv 12)) (blkOk_by (N := N_law) (sc := defScope s_law) (by decide +kernel)) (fun _ _ _ _ _ => (pg_name (i := 17) sc_law.nd rfl (Or.inl rfl))) (fun _ _ _ _ _ => pts_nil) (fun _ _ _ _ _ => (pe_call (ok_text T) (hr.mono (by decide)) rfl T.g_text T.k_text T.bd_text .nil pass0 (pa_cons (pv 17) pa_nil)))) (pe_lst (pa_cons (pe_slice sl_str (pv 11) po_none (po_some (pe_un un_neg pe_int))) (pa_cons (pe_op op_add_str (pv 11) pe_str) pa_nil)))))
      (pss_cons (ps_setLc (i := 14) (own := [("_law_one", 17)]) rfl sc_law.nd rfl rfl (sw_true rfl rfl rfl (by decide +kernel)) (piL K (pv 13)) (blkOk_by (N := N_law) (sc := defScope s_law) (by decide +kernel)) (fun _ _ _ _ _ => (pg_name (i := 17) sc_law.nd rfl (Or.inr rfl))) (fun _ _ _ _ _ => pts_nil) (fun _ _ _ _ _ => (PfL.pe_tryBN N_law ((cxOf CX0 P w K mg base N_law (Str.ofString "law") (defScope s_law) T.f_law (Value.ref T.cL) A outer s H E).nox.env.qual ++ Str.ofString "<lambda>") (ok_try (P := P) (w := w) (base := base) T 36) (hr.mono (by decide)) rfl T.g_try T.k_try T.bd_try blk_knd TB rfl PfL.Par.zero.lam (blk_own (by kernel_rfl)) rfl rfl)))
      (pss_cons (ps_if (pt_not (pt_val (pe_call (ok_like T 4) (hr.mono (by decide)) rfl T.g_like T.k_like T.bd_like .nil pass0 (pa_cons (pv 14) (pa_cons (pe_lc (own := [("_law_k", 18)]) rfl sc_law.nd (piL K (pe_lst (pa_cons pe_int (pa_cons (pv 7) (pa_cons (pv 6) (pa_cons pe_int (pa_cons (pe_op op_sub (pv 6) pe_int) (pa_cons (pv 6) pa_nil)))))))) (blkOk_by (N := N_law) (sc := defScope s_law) (by decide +kernel)) (fun _ _ _ _ _ => (pg_name (i := 18) sc_law.nd rfl (Or.inl rfl))) (fun _ _ _ _ _ => pts_nil) (fun _ _ _ _ _ => (pe_tup (pa_cons pe_str (pa_cons (pv 18) pa_nil))))) pa_nil))))) (pss_one (ps_ret pe_bl)) pss_nil)
      (pss_cons (ps_if (pt_not (pt_val (pe_call (ok_goals_so T TB2) (hr.mono (by decide)) rfl T.g_goals_so T.k_goals_so T.bd_goals_so .nil pass0 (pa_cons (pv 1) (pa_cons (pv 4) (pa_cons (pv 5) (pa_cons (pv 7) pa_nil))))))) (pss_one (ps_ret pe_bl)) pss_nil)
      (pss_cons (ps_set (i := 15) sc_law.nd rfl (Or.inr rfl) (pe_op op_cat (pe_op op_cat (pe_slice (slL K) (pv 5) po_none (po_some pe_int)) (pe_op op_rep (pe_lst (pa_cons (pe_ix (ixL K) (pv 5) pe_int (fun _ _ => rfl)) pa_nil)) (pe_op op_add pe_int (pe_call (ok_draw T) (hr.mono (by decide)) rfl T.g_draw T.k_draw T.bd_draw .nil pass0 (pa_cons (pv 1) (pa_cons pe_int pa_nil)))))) (pe_lst (pa_cons pe_str pa_nil))))
      (pss_cons (ps_set (i := 16) sc_law.nd rfl (Or.inr rfl) (pe_call (ok_of T) (hr.mono (by decide)) rfl T.g_of T.k_of T.bd_of .nil pass0 (pa_cons (pv 1) (pa_cons (pe_lst (pa_cons pe_non (pa_cons pe_int (pa_cons pe_bl (pa_cons (pe_lst (pa_cons pe_str pa_nil)) (pa_cons pe_str (pa_cons pe_str pa_nil))))))) pa_nil))))
      (pss_cons (ps_set (i := 14) sc_law.nd rfl (Or.inl rfl) (pe_lst (pa_cons (PfL.pe_fzcall (ok_try T 36) (hr.mono (by decide)) rfl T.g_try T.k_try T.bd_try (fun _ _ _ => rfl) (law_knd (nodup_by (by kernel_rfl))) rfl rfl (PfL.pe_lam TB rfl PfL.Par.zero.lam (lam_free (by kernel_rfl)))) (pa_cons (PfL.pe_fzcall (ok_try T 36) (hr.mono (by decide)) rfl T.g_try T.k_try T.bd_try (fun _ _ _ => rfl) (law_knd (nodup_by (by kernel_rfl))) rfl rfl (PfL.pe_lam TB rfl (PfL.Par.one _ _ _ _ _).lam (lam_free (by kernel_rfl)))) pa_nil))))
      (pss_one (ps_if (pt_not (pt_val (pe_call (ok_like T 4) (hr.mono (by decide)) rfl T.g_like T.k_like T.bd_like .nil pass0 (pa_cons (pv 14) (pa_cons (pe_lst (pa_cons (pe_tup (pa_cons pe_str (pa_cons pe_int pa_nil))) (pa_cons (pe_tup (pa_cons pe_str (pa_cons pe_int pa_nil))) pa_nil))) pa_nil))))) (pss_one (ps_ret pe_bl)) pss_nil)))))))))))))))))))
    (pss_one (ps_ret pe_bl)))), ?_⟩
  have huL : ∀ p ∈ [(T.pL, ((cxOf CX0 P w K mg base N_law (Str.ofString "law") (defScope s_law) T.f_law (Value.ref T.cL) A outer s H E).nox.env.qual ++ Str.ofString "<lambda>")), (T.pA_goals_so, qGs)], p.1 = T.pL → p = (T.pL, ((cxOf CX0 P w K mg base N_law (Str.ofString "law") (defScope s_law) T.f_law (Value.ref T.cL) A outer s H E).nox.env.qual ++ Str.ofString "<lambda>")) := fun p hp e => by
    simp only [List.mem_cons, List.not_mem_nil, or_false] at hp
    rcases hp with rfl | rfl
    · rfl
    · exact absurd e.symm T.pne_goals_so
  have huA : ∀ p ∈ [(T.pL, ((cxOf CX0 P w K mg base N_law (Str.ofString "law") (defScope s_law) T.f_law (Value.ref T.cL) A outer s H E).nox.env.qual ++ Str.ofString "<lambda>")), (T.pA_goals_so, qGs)], p.1 = T.pA_goals_so → p = (T.pA_goals_so, qGs) := fun p hp e => by
    simp only [List.mem_cons, List.not_mem_nil, or_false] at hp
    rcases hp with rfl | rfl
    · exact absurd e T.pne_goals_so
    · rfl
  refine lawInTs (Ts := [(T.pL, ((cxOf CX0 P w K mg base N_law (Str.ofString "law") (defScope s_law) T.f_law (Value.ref T.cL) A outer s H E).nox.env.qual ++ Str.ofString "<lambda>")), (T.pA_goals_so, qGs)]) h (by decide) fun b c H1 M0 E => ?_
  refine do_seq (do_for (js := [2]) (PX := fun l => l = upto 0 6) (it_range1 (ea_cons (ev_int (ea_nil ⟨6, rfl, by decide, by decide, rfl⟩)))) (fun _ _ δ => δ = slotsT N_law) (fun _ _ => rfl) ?_ ?_)
  rotate_left
  · rintro l δ rfl rfl
    exact do_ret (ev_bl rfl)
  rintro l i x δ rfl hi rfl
  refine tg_name ?_
  refine do_wk [2, 3, 4, 5, 6, 7, 8, 9, 10, 11, 12, 13, 14, 15, 16] ?_
  refine do_seq (do_set (ev_op (ev_int (ev_draw rfl rfl (ea_cons (ev_int (ea_nil ⟨4, rfl, by decide, by decide, fun r r0 r1 => od_int ?_⟩)))))))
  have h1 : 1 ≤ 1 + r := by omega
  have h4 : 1 + r ≤ 4 := by omega
  generalize 1 + r = P at h1 h4 ⊢
  clear r0 r1 r
  refine do_seq (do_set (ev_callB rfl rfl (ea_cons (ev_var (d := .int P) rfl (ea_cons (ev_int (ea_nil ⟨⟨P, 4, rfl, h1, h4, by decide, by decide⟩, fun d hd => ?_⟩)))))))
  obtain ⟨P', m', r, e, rfl, g, hparts, hlen⟩ := hd
  obtain ⟨e1, e2⟩ := List.cons.inj e
  obtain rfl : P = P' := D.int.inj e1
  obtain rfl : (4 : Int) = m' := D.int.inj (List.cons.inj e2).1
  clear e e1 e2
  have n4 : r.ss.length ≤ 4 := by omega
  have n1 := g.ss.n0
  have hPn : ((partsOf r.ss : Nat) : Int) = P := by rw [hparts]; omega
  clear hparts hlen
  show Do _ _ [.un, .bag, .dat x, .dat (.int P), .dat (specD r), .un, .un, .un, .un, .un, .un, .un, .un, .un, .un, .un, .un, .un, .un] _
  refine do_seq (do_set (ev_call (ea_cons (ev_var (d := specD r) rfl (ea_nil ⟨⟨r, rfl, g⟩, ?_⟩)))))
  rintro d ⟨r', e, rfl⟩
  obtain rfl := specD_inj (List.cons.inj e).1
  show Do _ _ [.un, .bag, .dat x, .dat (.int P), .dat (specD r), .dat (.lst (txsD (linesR r))), .un, .un, .un, .un, .un, .un, .un, .un, .un, .un, .un, .un, .un] _
  have ll : (linesR r).length = r.ss.length + 1 := linesR_len
  refine do_seq (do_par2 (ev_cb (ea_cons (ev_var (d := .lst (txsD (linesR r))) rfl (ea_nil (cd_lenK (k := r.ss.length + 1) (by simp [lenD, txsD, ll]) (by omega) (ev_op (ev_int (ev_draw rfl rfl (ea_cons (ev_cb (ea_cons (ev_var (d := .lst (txsD (linesR r))) rfl (ea_nil (cd_lenK (k := r.ss.length + 1) (by simp [lenD, txsD, ll]) (by omega) (ea_nil ⟨((r.ss.length + 1 : Nat) : Int), rfl, by omega, by omega, fun a0 h0 ha => od_int ?_⟩))))))))))))))))
  obtain ⟨a, rfl⟩ := Int.eq_ofNat_of_zero_le h0
  have ha : a ≤ r.ss.length := by omega
  show Do _ _ [.un, .bag, .dat x, .dat (.int P), .dat (specD r), .dat (.lst (txsD (linesR r))), .dat (.int ((r.ss.length + 1 : Nat) : Int)), .dat (.int (1 + (a : Int))), .un, .un, .un, .un, .un, .un, .un, .un, .un, .un, .un] _
  refine do_letP (fun d => ∃ h, h ∈ heads ∧ d = .str h) (ev_ofL rfl rfl ?_) fun d0 hd0 => ?_
  · repeat (first | walk_at "ev")
    refine ⟨by simp, ea_nil ⟨_, rfl, by simp, by simp, fun d hd => ?_⟩⟩
    obtain ⟨z, hz, e⟩ := List.mem_map.mp (show d ∈ heads.map D.str from hd)
    exact ⟨z, hz, e.symm⟩
  obtain ⟨hh, hhd, rfl⟩ := hd0
  refine do_letP (fun d => ∃ l, l ∈ odds ∧ d = .str l) (ev_ofL rfl rfl ?_) fun d1 hd1 => ?_
  · repeat (first | walk_at "ev")
    refine ⟨by simp, ea_nil ⟨_, rfl, by simp, by simp, fun d hd => ?_⟩⟩
    obtain ⟨z, hz, e⟩ := List.mem_map.mp (show d ∈ odds.map D.str from hd)
    exact ⟨z, hz, e.symm⟩
  obtain ⟨lb, hlb, rfl⟩ := hd1
  show Do _ _ [.un, .bag, .dat x, .dat (.int P), .dat (specD r), .dat (.lst (txsD (linesR r))), .dat (.int ((r.ss.length + 1 : Nat) : Int)), .dat (.int (1 + (a : Int))), .dat (.str hh), .dat (.str lb), .un, .un, .un, .un, .un, .un, .un, .un, .un] _
  refine do_let (.str (wideT P)) ?_ ?_
  · refine ev_op (ev_str (ev_m1 (ev_str ⟨_, rfl, ev_op (ev_lst (ea_cons (ev_str (ea_nil ⟨by simp, ev_op (ev_op (ev_var (d := .int P) rfl (ev_int (od_intC (by decide) (ev_int (od_int (od_rep (by omega) (by omega) (by simp; omega) ?_)))))))⟩))))⟩)))
    rw [flat_one]
    have e : List.replicate (P % 4 + 1).toNat (D.str (Str.ofString "1")) = strD (List.replicate (P % 4 + 1).toNat (Str.ofString "1")) := by simp [strD]
    show CallD _ _ [_, .lst (List.replicate (P % 4 + 1).toNat (D.str (Str.ofString "1")))] _
    rw [e]
    have l1 : (Str.ofString "1").length = 1 := by decide +kernel
    have l12 : (Str.ofString "state 1 - - ").length = 12 := by decide +kernel
    have hs : ((List.replicate (P % 4 + 1).toNat (Str.ofString "1")).map (·.length)).sum = (P % 4 + 1).toNat := by simp [l1]
    refine cd_join (by rw [hs, sp_len, List.length_replicate]; omega) (od_addS ?_ rfl)
    have := join_len (Str.ofString " ") (List.replicate (P % 4 + 1).toNat (Str.ofString "1"))
    rw [hs, sp_len, List.length_replicate] at this
    omega
  show Do _ _ [.un, .bag, .dat x, .dat (.int P), .dat (specD r), .dat (.lst (txsD (linesR r))), .dat (.int ((r.ss.length + 1 : Nat) : Int)), .dat (.int (1 + (a : Int))), .dat (.str hh), .dat (.str lb), .dat (.str (wideT P)), .un, .un, .un, .un, .un, .un, .un, .un] _
  have odl : ∀ l ∈ linesR r, OddL l := fun l hl => by
    rw [linesR_eq] at hl
    exact oddLs g (fit_odd (base_fit g)) l hl
  have okl : ∀ l ∈ linesR r, l.length ≤ 1000 := fun l hl => (odl l hl).ok.z
  have tis := base_tex g h1 h4 hPn n4 ha hhd hlb
  have ow := (wide_ok h1 h4).1
  refine do_let (.str (textOf (linesR r))) (ev_textOf (by omega) okl (ea_cons (ev_var rfl (ea_nil rfl))) rfl) ?_
  show Do _ _ [.un, .bag, .dat x, .dat (.int P), .dat (specD r), .dat (.lst (txsD (linesR r))), .dat (.int ((r.ss.length + 1 : Nat) : Int)), .dat (.int (1 + (a : Int))), .dat (.str hh), .dat (.str lb), .dat (.str (wideT P)), .dat (.str (textOf (linesR r))), .un, .un, .un, .un, .un, .un, .un] _
  have a1 : ∀ {F : Fm} {δ : List SD}, δ[7]? = some (.dat (.int (1 + (a : Int)))) → Ev F (tVar 7) δ (· = .int ((a + 1 : Nat) : Int)) := fun h => ev_var h (by congr 1; omega)
  refine do_let (.lst (llD (rowsT r a hh lb P))) (ev_lst ?_) ?_
  · refine ea_cons (ev_head1 rfl rfl (by omega) (by omega) ?_)
    refine ea_cons (ev_bent rfl (a1 rfl) (by omega) (by omega) (ev_var rfl rfl) ?_)
    refine ea_cons (ev_end1 rfl rfl (by omega) ?_)
    refine ea_cons (EvN.ev (en_slL (ev_var (d := .lst (txsD (linesR r))) rfl (eo_none (eo_some (ev_int ⟨_, rfl, _, rfl, ?_⟩))))))
    rw [cut_at1 (k := 1) (a := 1) (by rw [txsD_length]; omega) rfl, txsD_take]
    exact ea_nil ⟨by simp, rfl⟩
  show Do _ _ [.un, .bag, .dat x, .dat (.int P), .dat (specD r), .dat (.lst (txsD (linesR r))), .dat (.int ((r.ss.length + 1 : Nat) : Int)), .dat (.int (1 + (a : Int))), .dat (.str hh), .dat (.str lb), .dat (.str (wideT P)), .dat (.str (textOf (linesR r))), .dat (.lst (llD (rowsT r a hh lb P))), .un, .un, .un, .un, .un, .un] _
  have osome : ∀ ls ∈ rowsT r a hh lb P, ls.length ≤ 400 ∧ ∀ l ∈ ls, l.length ≤ 1000 := fun ls hls => by
    unfold rowsT at hls
    simp only [List.mem_cons, List.not_mem_nil, or_false] at hls
    rcases hls with rfl | rfl | rfl | rfl
    · refine ⟨by simp; omega, fun l hl => ?_⟩
      rcases List.mem_append.mp hl with hl | hl
      · rw [List.mem_singleton.mp hl]
        exact (head_bad hhd).1.ok.z
      · exact okl l (List.mem_of_mem_drop hl)
    · refine ⟨by simp [List.length_take, List.length_drop]; omega, fun l hl => ?_⟩
      rcases List.mem_append.mp hl with hl | hl
      · rcases List.mem_append.mp hl with hl | hl
        · exact okl l (List.mem_of_mem_take hl)
        · rw [List.mem_singleton.mp hl]
          exact (odd_bad hlb).1.ok.z
      · exact okl l (List.mem_of_mem_drop hl)
    · refine ⟨by simp; omega, fun l hl => ?_⟩
      rcases List.mem_append.mp hl with hl | hl
      · exact okl l hl
      · rw [List.mem_singleton.mp hl]
        exact ow.ok.z
    · exact ⟨by simp [List.length_take]; omega, fun l hl => okl l (List.mem_of_mem_take hl)⟩
  have tz : (textOf (linesR r)).length ≤ 50000 := by
    have := text_len okl
    have : 1001 * (linesR r).length ≤ 1001 * 20 := Nat.mul_le_mul_left _ (by omega)
    omega
  refine do_seq (do_set (ev_op (EvN.ev ?_)))
  refine en_lc (js := [17]) (PX := fun l => l = llD (rowsT r a hh lb P)) (it_list (ev_var rfl ⟨_, rfl, rfl⟩)) (fun l e => by rw [e]; simp [llD, rowsT]) (by decide) (fun l i acc => acc = txsD (((rowsT r a hh lb P).take i).map textOf)) (fun l e => rfl) ?_ ?_
  · rintro l i y acc rfl hi rfl
    unfold llD at hi
    rw [List.getElem?_map] at hi
    cases hx : (rowsT r a hh lb P)[i]? with
    | none => rw [hx] at hi; cases hi
    | some ls =>
      rw [hx] at hi
      obtain rfl := Option.some.inj hi
      have ols := osome ls (List.mem_of_getElem? hx)
      refine tg_name (et_yes ⟨fun _ => ev_textOf ols.1 ols.2 (ea_cons (ev_var rfl (ea_nil rfl))) ?_, fun h => nomatch h⟩)
      show txsD _ ++ [D.str (textOf ls)] = _
      rw [List.take_succ, hx]
      simp [txsD]
  rintro l ds rfl rfl
  rw [llD, List.length_map, List.take_length]
  have x1 : (Str.ofString "x").length = 1 := by decide +kernel
  refine ev_lst (ea_cons (ev_slS (ev_var (d := .str (textOf (linesR r))) rfl (eo_none (eo_some (ev_un (ev_int (negb ⟨-1, rfl, _, rfl, by omega, ?_⟩))))))))
  refine ea_cons (ev_op (ev_var (d := .str (textOf (linesR r))) rfl (ev_str (od_addS (by rw [x1]; omega) ?_))))
  refine ea_nil ⟨by simp, od_cat (by simp [txsD, rowsT]) ?_⟩
  have tx : txsD ((rowsT r a hh lb P).map textOf) ++ [D.str (cutS (textOf (linesR r)) none (some (-1))), .str (textOf (linesR r) ++ Str.ofString "x")] = txsD (textsT r a hh lb P) := by
    unfold textsT
    rw [← txsD_app]
    rfl
  rw [tx]
  clear osome
  have tln : (textsT r a hh lb P).length = 6 := by simp [textsT, rowsT]
  have dln : (duesT r a).length = 6 := by simp [duesT]
  generalize hds : duesT r a = ks at tis dln
  generalize textsT r a hh lb P = xs at tis tln ⊢
  show Do _ _ [.un, .bag, .dat x, .dat (.int P), .dat (specD r), .dat (.lst (txsD (linesR r))), .dat (.int ((r.ss.length + 1 : Nat) : Int)), .dat (.int (1 + (a : Int))), .dat (.str hh), .dat (.str lb), .dat (.str (wideT P)), .dat (.str (textOf (linesR r))), .dat (.lst (llD (rowsT r a hh lb P))), .dat (.lst (txsD xs)), .un, .un, .un, .un, .un] _
  refine do_seq (do_set (EvN.ev ?_))
  refine en_lc (js := [17]) (PX := fun l => l = txsD xs) (it_list (ev_var rfl ⟨_, rfl, rfl⟩)) (fun l e => by rw [e, txsD_length, tln]; decide) (by decide) (fun l i acc => acc = (ks.take i).map fun k => dueS (.inl k)) (fun l e => rfl) ?_ ?_
  · rintro l i y acc rfl hi rfl
    unfold txsD at hi
    rw [List.getElem?_map] at hi
    cases hx : xs[i]? with
    | none => rw [hx] at hi; cases hi
    | some z =>
      rw [hx] at hi
      obtain rfl := Option.some.inj hi
      obtain ⟨k, ho, it⟩ := tis i z hx
      refine tg_name (et_yes ⟨fun _ => ?_, fun h => nomatch h⟩)
      refine Ev.imp (P := (· = dueS (.inl k))) (ev_tryB2 rfl rfl List.mem_cons_self huL (.inl rfl) fun cells hc f F' hs li eq => ?_) fun d e => ?_
      · exact lam_bad (tLenRd T 17) [17] _ _ _ _ (e_text T) li eq hc .zero (lsc_by (by kernel_rfl)) (fun c dV A outer s H0 E' hr => (pe_callB (call_lenOwn T.dn_Reader_len T.fn_Reader_len (raw0 (ok_Reader_len T) T.bd_Reader_len) (hr.mono (by decide)) pass0) (by rfl) T.b_len (by decide +kernel) (pa_cons (pe_call (ok_read_reader T) (hr.mono (by decide)) rfl T.g_read_reader T.k_read_reader T.bd_read_reader .nil passX (pa_cons (pv 17) pa_nil)) pa_nil))) (hj1 rfl) fun M' H' E' ok => ev_lenBad T it ok (ev_cap rfl (by decide) rfl)
      · rw [e, List.take_succ, ho]
        simp
  rintro l ds rfl rfl
  have e6 : ks.take (txsD xs).length = ks := List.take_of_length_le (by rw [txsD_length, tln, dln]; exact Nat.le_refl _)
  rw [e6]
  show Do _ _ [.un, .bag, .dat x, .dat (.int P), .dat (specD r), .dat (.lst (txsD (linesR r))), .dat (.int ((r.ss.length + 1 : Nat) : Int)), .dat (.int (1 + (a : Int))), .dat (.str hh), .dat (.str lb), .dat (.str (wideT P)), .dat (.str (textOf (linesR r))), .dat (.lst (llD (rowsT r a hh lb P))), .dat (.lst (txsD xs)), .dat (.lst (ks.map fun k => dueS (.inl k))), .un, .un, .un, .un] _
  refine do_seq (do_if (et_not (et_test (ev_like (ea_cons (ev_var rfl (ea_cons (EvN.ev ?_))))))))
  refine en_lc (js := [18]) (PX := fun l => l = ks.map D.int) (it_list (ev_lst ?_)) (fun l e => by rw [e, List.length_map, dln]; decide) (by decide) (fun l i acc => acc = (ks.take i).map fun k => dueS (.inl k)) (fun l e => rfl) ?_ ?_
  · repeat (first | walk_at "ev")
    refine ⟨by simp, _, rfl, ?_⟩
    rw [← hds]
    show [D.int 0, .int (1 + (a : Int)), .int ((r.ss.length + 1 : Nat) : Int), .int 1, .int (((r.ss.length + 1 : Nat) : Int) - 1), .int ((r.ss.length + 1 : Nat) : Int)] = _
    simp [duesT]
  · rintro l i y acc rfl hi rfl
    rw [List.getElem?_map] at hi
    cases ho : ks[i]? with
    | none => rw [ho] at hi; cases hi
    | some k =>
      rw [ho] at hi
      obtain rfl := Option.some.inj hi
      refine tg_name (et_yes ⟨fun _ => ev_tup (ea_cons (ev_str (ea_cons (ev_var rfl (ea_nil ⟨by simp, ?_⟩))))), fun h => nomatch h⟩)
      rw [List.take_succ, ho]
      simp [dueS]
  rintro l ds rfl rfl
  rw [List.length_map, List.take_length]
  have em : (ks.map fun k => dueS (.inl k)) = (ks.map Sum.inl).map dueS := by rw [List.map_map]; rfl
  have pk : plD (.lst (ks.map fun k => dueS (.inl k))) = true := by
    rw [em]
    exact plo (by rw [List.length_map]; omega)
  have dk : dep (.lst (ks.map fun k => dueS (.inl k))) ≤ 4 := by
    rw [em]
    exact dpo _
  refine ea_nil ⟨_, _, rfl, pk, pk, dk, _, rfl, ?_⟩
  rw [likeD_self _ pk]
  refine ⟨(fun h => nomatch h), fun _ => do_next ?_⟩
  refine do_seq (do_if (et_not (et_test (ev_callBT rfl rfl (List.mem_cons_of_mem _ List.mem_cons_self) huA (ea_cons (ev_var (d := specD r) rfl (ea_cons (ev_var (d := .lst (txsD (linesR r))) rfl (ea_cons (ev_var (d := .int (1 + (a : Int))) rfl (ea_nil ⟨⟨r, a, rfl, g, n4, ha⟩, fun d hd => ?_⟩)))))))))))
  refine ⟨_, hd, (fun h => nomatch h), fun _ => do_next ?_⟩
  obtain ⟨s0, hs0⟩ : ∃ s, r.ss[0]? = some s := ⟨r.ss[0], List.getElem?_eq_getElem n1⟩
  have ix1 : atI (txsD (linesR r)) 1 = some (.str (RL s0)) := atI_nat (j := 1) (by unfold txsD; rw [List.getElem?_map, linesR_eq, base_fst]; simp [hs0])
  refine do_letP (fun d => ∃ m : Nat, (m = 6 ∨ m = 7) ∧ d = .lst (txsD (sevenL r (RL s0) m))) ?_ fun d7 hd7 => ?_
  · refine ev_op (ev_op (EvN.ev (en_slL (ev_var (d := .lst (txsD (linesR r))) rfl (eo_none (eo_some (ev_int ⟨_, rfl, _, rfl, ?_⟩)))))))
    rw [cut_at1 (k := 1) (a := 1) (by rw [txsD_length]; omega) rfl, txsD_take]
    refine ev_op (ev_lst (ea_cons (ev_op (ev_var (d := .lst (txsD (linesR r))) rfl (ev_int (od_ixL ix1 (ea_nil ⟨by simp, ev_op (ev_int (ev_draw rfl rfl (ea_cons (ev_int (ea_nil ⟨2, rfl, by decide, by decide, fun m m0 m1 => od_int (od_rep (by omega) (by omega) (by simp; omega) ?_)⟩)))))⟩)))))))
    rw [flat_one]
    have e : List.replicate (6 + m).toNat (D.str (RL s0)) = txsD (List.replicate (6 + m).toNat (RL s0)) := by simp [txsD]
    rw [e]
    refine od_cat (by rw [txsD_length, txsD_length, List.length_take, List.length_replicate]; omega) ?_
    rw [txsD_app]
    refine ev_lst (ea_cons (ev_str (ea_nil ⟨by simp, ?_⟩)))
    rw [txsD_one]
    refine od_cat (by rw [txsD_length, txsD_length, List.length_append, List.length_take, List.length_replicate]; simp; omega) ?_
    rw [txsD_app]
    exact ⟨(6 + m).toNat, by omega, rfl⟩
  obtain ⟨m7, hm7, rfl⟩ := hd7
  have t7 := seven_is g hs0 hm7
  have l7 : ((sevenL r (RL s0) m7).map (·.length)).sum + (sevenL r (RL s0) m7).length * (Str.ofString "\n").length ≤ 16777216 := by
    have hl : (RL s0).length ≤ 1000 := (odl (RL s0) (by rw [linesR_eq, base_fst]; exact List.mem_cons_of_mem _ (List.mem_map_of_mem (List.mem_of_getElem? hs0)))).ok.z
    have hd : (lineOf (headR r)).length ≤ 1000 := (headQ_line g).1.ok.z
    have := sum_le (k := 1000) (zs := sevenL r (RL s0) m7) fun z hz => by
      unfold sevenL at hz
      rcases List.mem_append.mp hz with hz | hz
      · rcases List.mem_append.mp hz with hz | hz
        · rw [List.mem_singleton.mp hz]; exact hd
        · rw [List.eq_of_mem_replicate hz]; exact hl
      · rw [List.mem_singleton.mp hz]; exact x_z
    have e : (sevenL r (RL s0) m7).length = m7 + 2 := by simp [sevenL]
    rw [e] at this ⊢
    rw [show (Str.ofString "\n").length = 1 from nl_len]
    have : 1000 * (m7 + 2) ≤ 1000 * 9 := Nat.mul_le_mul_left _ (by omega)
    omega
  generalize sevenL r (RL s0) m7 = s7 at t7 l7
  refine do_letP OddT (ev_ofL rfl rfl ?_) fun od hod => ?_
  · repeat (first | walk_at "ev" | refine ⟨by simp, ?_⟩)
    refine ⟨_, rfl, by simp, by simp, fun d hd => ?_⟩
    simp only [List.mem_cons, List.not_mem_nil, or_false] at hd
    rcases hd with rfl | rfl | rfl | rfl | rfl | rfl
    · exact .inl ⟨rfl, rfl⟩
    · exact .inl ⟨rfl, rfl⟩
    · exact .inl ⟨rfl, rfl⟩
    · exact .inl ⟨rfl, rfl⟩
    · exact .inr (.inl (by congr 1))
    · exact .inr (.inr (by congr 1))
  obtain ⟨pod, nod, eod⟩ := odd_pre hod
  show Do _ _ [.un, .bag, .dat x, .dat (.int P), .dat (specD r), .dat (.lst (txsD (linesR r))), .dat (.int ((r.ss.length + 1 : Nat) : Int)), .dat (.int (1 + (a : Int))), .dat (.str hh), .dat (.str lb), .dat (.str (wideT P)), .dat (.str (textOf (linesR r))), .dat (.lst (llD (rowsT r a hh lb P))), .dat (.lst (txsD xs)), .dat (.lst (ks.map fun k => dueS (.inl k))), .dat (.lst (txsD s7)), .dat od, .un, .un] _
  refine do_let (.lst [.tup [.str "InvalidText", .int 7], .tup [.str "InvalidText", .int 0]]) (ev_lst (ea_cons (Ev.imp (P := (· = .tup [.str "InvalidText", .int 7])) (ev_fz1 rfl rfl (ev_lam2 List.mem_cons_self huL (.inl rfl) fun f F' hs li eq => ⟨f, hs, rfl, ?_⟩)) fun d e => ea_cons (Ev.imp (P := (· = .tup [.str "InvalidText", .int 0])) (ev_fz1 rfl rfl (ev_lam2 List.mem_cons_self huL (.inr (List.cons_ne_nil _ _)) fun f F' hs li eq => ⟨f, hs, rfl, ?_⟩)) fun d' e' => ea_nil ⟨by simp, by rw [e, e']⟩)))) ?_
  · exact lam_bad (fun E' => tCall (spR K preRR (poRR T.c_Reader) (pxRR T)) [] E' (tCons (tM1 (rJoinK K) (tC (.str (Str.ofString "\n"))) (tVar 15)) tNil)) [15] _ _ _ _ (e_text T) li eq (law_cells (by kernel_rfl)) .zero (lsc_by (by kernel_rfl)) (fun c dV A outer s H0 E' hr => (pe_call (ok_read_reader T) (hr.mono (by decide)) rfl T.g_read_reader T.k_read_reader T.bd_read_reader .nil passX (pa_cons (pe_join pe_str (pv 15)) pa_nil))) (hj1 rfl) fun M' H' E' ok => ev_callR (F := ⟨K, none, M', H', E', 0, []⟩) ok (ea_cons (ev_m1 (ev_str ⟨_, rfl, ev_cap rfl (by decide) (cd_join l7 (ea_nil ⟨pre_is t7, fun d hd => (read_no t7 hd).elim, fun C gs hx => read_err t7 hx⟩))⟩)))
  · exact lam_bad (fun E' => tCall (spR K preRR (poRR T.c_Reader) (pxRR T)) [] E' (tCons (tVar 16) tNil)) [16] _ _ _ _ (e_text T) li eq (law_cells (by kernel_rfl)) (.one _ _ _ _ _) (lsc_by (by kernel_rfl)) (fun c dV A outer s H0 E' hr => (pe_call (ok_read_reader T) (hr.mono (by decide)) rfl T.g_read_reader T.k_read_reader T.bd_read_reader .nil passX (pa_cons (pv 16) pa_nil))) (hj1 rfl) fun M' H' E' ok => ev_callR (F := ⟨K, none, M', H', E', 0, []⟩) ok (ea_cons (ev_cap rfl (by decide) (ea_nil ⟨pod, fun d hd => (nod hd).elim, fun C gs hx => eod hx⟩)))
  show Do _ _ [.un, .bag, .dat x, .dat (.int P), .dat (specD r), .dat (.lst (txsD (linesR r))), .dat (.int ((r.ss.length + 1 : Nat) : Int)), .dat (.int (1 + (a : Int))), .dat (.str hh), .dat (.str lb), .dat (.str (wideT P)), .dat (.str (textOf (linesR r))), .dat (.lst (llD (rowsT r a hh lb P))), .dat (.lst (txsD xs)), .dat (.lst [.tup [.str "InvalidText", .int 7], .tup [.str "InvalidText", .int 0]]), .dat (.lst (txsD s7)), .dat od, .un, .un] _
  have pl : plD (.lst [.tup [.str "InvalidText", .int 7], .tup [.str "InvalidText", .int 0]]) = true := rfl
  refine do_if (et_not (et_test (ev_like (ea_cons (ev_var rfl (ea_cons (ev_lst (ea_cons (ev_tup (ea_cons (ev_str (ea_cons (ev_int (ea_nil ⟨by simp, ea_cons (ev_tup (ea_cons (ev_str (ea_cons (ev_int (ea_nil ⟨by simp, ea_nil ⟨by simp, ea_nil ⟨_, _, rfl, pl, pl, by simp [dep, depL], _, rfl, ?_⟩⟩⟩))))))⟩))))))))))))))
  rw [likeD_self _ pl]
  exact ⟨(fun h => nomatch h), fun _ => do_next (by show wipeD _ _ = _; simp only [wipeD, List.set_cons_succ, List.set_cons_zero]; rfl)⟩
theorem all_mk {l : PySem.W.OpenLaw} {w : World} {K : PySem.W.Frag} {h : Heap} {mg : Str → Option Value} {fa : Addr} (X : K.In h) (G : h.Ns mainGlobals mg) (hfa : mg "law" = some (.ref fa))
    {t__MOST_SIZE : Tok}
    {t__MOST_DIGITS : Tok}
    {c_Table : Addr}
    {u_Table_MOST_PARTS : Tok}
    {c_Reader : Addr}
    {u_Reader_MOST_STATES : Tok}
    {u_Reader_MOST_ASK : Tok}
    {tk11_inner : Tok}
    {tk11_order : Tok}
    {ct_Reader_MARKS : Addr} {co_Reader_MARKS : Option Addr} {cs_Reader_MARKS : Array (Option Value)} {cn_Reader_MARKS : Nat} {wReader_MARKS_0 wReader_MARKS_1 wReader_MARKS_2 wReader_MARKS_3 wReader_MARKS_4 wReader_MARKS_5 : Tok}
    {ct_Reader_INNER : Addr} {co_Reader_INNER : Option Addr} {cs_Reader_INNER : Array (Option Value)} {cn_Reader_INNER : Nat} {wReader_INNER_0 wReader_INNER_1 : Tok}
    {ct_Reader_ORDERS : Addr} {co_Reader_ORDERS : Option Addr} {cs_Reader_ORDERS : Array (Option Value)} {cn_Reader_ORDERS : Nat} {wReader_ORDERS_0 wReader_ORDERS_1 wReader_ORDERS_2 : Tok}
    {c_PartError : Addr}
    {c_Missing : Addr}
    {c_NothingLeft : Addr}
    {c_InvalidText : Addr}
    {cL pL : Addr} {ceL : Value} {cdL : Option Addr} {cvL : Array Value} {csL : Array (Option Value)}
    {cA_goals_so pA_goals_so : Addr} {ceA_goals_so : Value} {cdA_goals_so : Option Addr} {cvA_goals_so : Array Value} {csA_goals_so : Array (Option Value)} {fn1 : Addr} {od1 an1 : Option Addr} {sl1 : Array (Option Value)} {oc1 kV1 dc1 pm1 cd1 ct1 : Value}
    {fn2 : Addr} {od2 an2 : Option Addr} {sl2 : Array (Option Value)} {oc2 kV2 dc2 pm2 cd2 ct2 : Value}
    {fn3 : Addr} {od3 an3 : Option Addr} {sl3 : Array (Option Value)} {oc3 kV3 dc3 pm3 cd3 ct3 : Value}
    {fn4 : Addr} {od4 an4 : Option Addr} {sl4 : Array (Option Value)} {oc4 kV4 dc4 pm4 cd4 ct4 : Value}
    {fn5 : Addr} {od5 an5 : Option Addr} {sl5 : Array (Option Value)} {oc5 kV5 dc5 pm5 cd5 ct5 : Value}
    {fn6 : Addr} {od6 an6 : Option Addr} {sl6 : Array (Option Value)} {oc6 kV6 dc6 pm6 cd6 ct6 : Value}
    {fn7 : Addr} {od7 an7 : Option Addr} {sl7 : Array (Option Value)} {oc7 kV7 dc7 pm7 cd7 ct7 : Value}
    {fn8 : Addr} {od8 an8 : Option Addr} {sl8 : Array (Option Value)} {oc8 kV8 dc8 pm8 cd8 ct8 : Value}
    {fn9 : Addr} {od9 an9 : Option Addr} {sl9 : Array (Option Value)} {oc9 kV9 dc9 pm9 cd9 ct9 : Value}
    {fn10 : Addr} {od10 an10 : Option Addr} {sl10 : Array (Option Value)} {oc10 kV10 dc10 pm10 cd10 ct10 : Value}
    {fn11 : Addr} {od11 an11 : Option Addr} {sl11 : Array (Option Value)} {kD11 : Addr} {oc11 dc11 pm11 cd11 ct11 : Value}
    {fn12 : Addr} {od12 an12 : Option Addr} {sl12 : Array (Option Value)} {oc12 kV12 dc12 pm12 cd12 ct12 : Value}
    {fn13 : Addr} {od13 an13 : Option Addr} {sl13 : Array (Option Value)} {oc13 kV13 dc13 pm13 cd13 ct13 : Value}
    {fn14 : Addr} {od14 an14 : Option Addr} {sl14 : Array (Option Value)} {oc14 kV14 dc14 pm14 cd14 ct14 : Value}
    {fn15 : Addr} {od15 an15 : Option Addr} {sl15 : Array (Option Value)} {oc15 kV15 dc15 pm15 cd15 ct15 : Value}
    {fn16 : Addr} {od16 an16 : Option Addr} {sl16 : Array (Option Value)} {oc16 kV16 dc16 pm16 cd16 ct16 : Value}
    {fn17 : Addr} {od17 an17 : Option Addr} {sl17 : Array (Option Value)} {oc17 kV17 dc17 pm17 cd17 ct17 : Value}
    {fn18 : Addr} {od18 an18 : Option Addr} {sl18 : Array (Option Value)} {oc18 kV18 dc18 pm18 cd18 ct18 : Value}
    {fn19 : Addr} {od19 an19 : Option Addr} {sl19 : Array (Option Value)} {oc19 kV19 dc19 pm19 cd19 ct19 : Value}
    {fn20 : Addr} {od20 an20 : Option Addr} {sl20 : Array (Option Value)} {oc20 kV20 dc20 pm20 cd20 ct20 : Value}
    {fn21 : Addr} {od21 an21 : Option Addr} {sl21 : Array (Option Value)} {oc21 kV21 dc21 pm21 cd21 ct21 : Value}
    {fn22 : Addr} {od22 an22 : Option Addr} {sl22 : Array (Option Value)} {oc22 kV22 dc22 pm22 cd22 ct22 : Value}
    {fn23 : Addr} {od23 an23 : Option Addr} {sl23 : Array (Option Value)} {oc23 kV23 dc23 pm23 cd23 ct23 : Value}
    {fn24 : Addr} {od24 an24 : Option Addr} {sl24 : Array (Option Value)} {oc24 kV24 dc24 pm24 cd24 ct24 : Value}
    {fn25 : Addr} {od25 an25 : Option Addr} {sl25 : Array (Option Value)} {oc25 kV25 dc25 pm25 cd25 ct25 : Value}
    {fn26 : Addr} {od26 an26 : Option Addr} {sl26 : Array (Option Value)} {oc26 kV26 dc26 pm26 cd26 ct26 : Value}
    {fn27 : Addr} {od27 an27 : Option Addr} {sl27 : Array (Option Value)} {oc27 kV27 dc27 pm27 cd27 ct27 : Value}
    {fn28 : Addr} {od28 an28 : Option Addr} {sl28 : Array (Option Value)} {oc28 kV28 dc28 pm28 cd28 ct28 : Value}
    {fn29 : Addr} {od29 an29 : Option Addr} {sl29 : Array (Option Value)} {oc29 kV29 dc29 pm29 cd29 ct29 : Value}
    {fn30 : Addr} {od30 an30 : Option Addr} {sl30 : Array (Option Value)} {oc30 kV30 dc30 pm30 cd30 ct30 : Value}
    {fn31 : Addr} {od31 an31 : Option Addr} {sl31 : Array (Option Value)} {oc31 kV31 dc31 pm31 cd31 ct31 : Value}
    {fn32 : Addr} {od32 an32 : Option Addr} {sl32 : Array (Option Value)} {oc32 kV32 dc32 pm32 cd32 ct32 : Value}
    {fn33 : Addr} {od33 an33 : Option Addr} {sl33 : Array (Option Value)} {oc33 kV33 dc33 pm33 ct33 : Value}
    {fn34 : Addr} {od34 an34 : Option Addr} {sl34 : Array (Option Value)} {oc34 kV34 dc34 pm34 ct34 : Value}
    (y_Table : PySem.W.nsIn K mainGlobals "Table" = some (some (.ref c_Table)))
    (y_Reader : PySem.W.nsIn K mainGlobals "Reader" = some (some (.ref c_Reader)))
    (y_PartError : PySem.W.nsIn K mainGlobals "PartError" = some (some (.ref c_PartError)))
    (y_Missing : PySem.W.nsIn K mainGlobals "Missing" = some (some (.ref c_Missing)))
    (y_NothingLeft : PySem.W.nsIn K mainGlobals "NothingLeft" = some (some (.ref c_NothingLeft)))
    (y_InvalidText : PySem.W.nsIn K mainGlobals "InvalidText" = some (some (.ref c_InvalidText)))
    (a1 : PySem.W.nsIn K mainGlobals "copied" = some (some (.ref fn1)))
    (l1 : K.lookup fn1 = some ⟨oc1, od1, .func (PySem.W.fnOf "copied" "copied" (defArgs s_copied) (defBody s_copied) (defScope s_copied) .none kV1 dc1 pm1 an1 cd1 ct1), sl1⟩)
    (e1 : PySem.W.codeIn K cd1 "copied" = true)
    (k1 : PySem.W.keepIn K (.ref fn1) = true)
    (a2 : PySem.W.findIn K (.ref c_InvalidText) "__init__" = some (some (.ref fn2)))
    (l2 : K.lookup fn2 = some ⟨oc2, od2, .func (PySem.W.fnOf "__init__" "InvalidText.__init__" (defArgs s_InvalidText_init) (defBody s_InvalidText_init) (defScope s_InvalidText_init) .none kV2 dc2 pm2 an2 cd2 ct2), sl2⟩)
    (e2 : PySem.W.codeIn K cd2 "InvalidText.__init__" = true)
    (k2 : PySem.W.keepIn K (.ref fn2) = true)
    (a3 : PySem.W.nsIn K mainGlobals "is_whole" = some (some (.ref fn3)))
    (l3 : K.lookup fn3 = some ⟨oc3, od3, .func (PySem.W.fnOf "is_whole" "is_whole" (defArgs s_is_whole) (defBody s_is_whole) (defScope s_is_whole) .none kV3 dc3 pm3 an3 cd3 ct3), sl3⟩)
    (e3 : PySem.W.codeIn K cd3 "is_whole" = true)
    (k3 : PySem.W.keepIn K (.ref fn3) = true)
    (a4 : PySem.W.nsIn K mainGlobals "is_number" = some (some (.ref fn4)))
    (l4 : K.lookup fn4 = some ⟨oc4, od4, .func (PySem.W.fnOf "is_number" "is_number" (defArgs s_is_number) (defBody s_is_number) (defScope s_is_number) .none kV4 dc4 pm4 an4 cd4 ct4), sl4⟩)
    (e4 : PySem.W.codeIn K cd4 "is_number" = true)
    (k4 : PySem.W.keepIn K (.ref fn4) = true)
    (a5 : PySem.W.nsIn K mainGlobals "_is_ask" = some (some (.ref fn5)))
    (l5 : K.lookup fn5 = some ⟨oc5, od5, .func (PySem.W.fnOf "_is_ask" "_is_ask" (defArgs s__is_ask) (defBody s__is_ask) (defScope s__is_ask) .none kV5 dc5 pm5 an5 cd5 ct5), sl5⟩)
    (e5 : PySem.W.codeIn K cd5 "_is_ask" = true)
    (k5 : PySem.W.keepIn K (.ref fn5) = true)
    (a6 : PySem.W.nsIn K mainGlobals "_are_asks" = some (some (.ref fn6)))
    (l6 : K.lookup fn6 = some ⟨oc6, od6, .func (PySem.W.fnOf "_are_asks" "_are_asks" (defArgs s__are_asks) (defBody s__are_asks) (defScope s__are_asks) .none kV6 dc6 pm6 an6 cd6 ct6), sl6⟩)
    (e6 : PySem.W.codeIn K cd6 "_are_asks" = true)
    (k6 : PySem.W.keepIn K (.ref fn6) = true)
    (a7 : PySem.W.nsIn K mainGlobals "_is_following" = some (some (.ref fn7)))
    (l7 : K.lookup fn7 = some ⟨oc7, od7, .func (PySem.W.fnOf "_is_following" "_is_following" (defArgs s__is_following) (defBody s__is_following) (defScope s__is_following) .none kV7 dc7 pm7 an7 cd7 ct7), sl7⟩)
    (e7 : PySem.W.codeIn K cd7 "_is_following" = true)
    (k7 : PySem.W.keepIn K (.ref fn7) = true)
    (a8 : PySem.W.nsIn K mainGlobals "is_state" = some (some (.ref fn8)))
    (l8 : K.lookup fn8 = some ⟨oc8, od8, .func (PySem.W.fnOf "is_state" "is_state" (defArgs s__is_state) (defBody s__is_state) (defScope s__is_state) .none kV8 dc8 pm8 an8 cd8 ct8), sl8⟩)
    (e8 : PySem.W.codeIn K cd8 "is_state" = true)
    (k8 : PySem.W.keepIn K (.ref fn8) = true)
    (a9 : PySem.W.nsIn K mainGlobals "check_orders" = some (some (.ref fn9)))
    (l9 : K.lookup fn9 = some ⟨oc9, od9, .func (PySem.W.fnOf "check_orders" "check_orders" (defArgs s_check_orders) (defBody s_check_orders) (defScope s_check_orders) .none kV9 dc9 pm9 an9 cd9 ct9), sl9⟩)
    (e9 : PySem.W.codeIn K cd9 "check_orders" = true)
    (k9 : PySem.W.keepIn K (.ref fn9) = true)
    (a10 : PySem.W.nsIn K mainGlobals "_check_states" = some (some (.ref fn10)))
    (l10 : K.lookup fn10 = some ⟨oc10, od10, .func (PySem.W.fnOf "_check_states" "_check_states" (defArgs s__check_states) (defBody s__check_states) (defScope s__check_states) .none kV10 dc10 pm10 an10 cd10 ct10), sl10⟩)
    (e10 : PySem.W.codeIn K cd10 "_check_states" = true)
    (k10 : PySem.W.keepIn K (.ref fn10) = true)
    (a11 : PySem.W.findIn K (.ref c_Reader) "__init__" = some (some (.ref fn11)))
    (l11 : K.lookup fn11 = some ⟨oc11, od11, .func (PySem.W.fnOf "__init__" "Reader.__init__" (defArgs s_Reader_init) (defBody s_Reader_init) (defScope s_Reader_init) .none (.ref kD11) dc11 pm11 an11 cd11 ct11), sl11⟩)
    (e11 : PySem.W.codeIn K cd11 "Reader.__init__" = true)
    (k11 : PySem.W.keepIn K (.ref fn11) = true)
    (a12 : PySem.W.findIn K (.ref c_Reader) "__len__" = some (some (.ref fn12)))
    (l12 : K.lookup fn12 = some ⟨oc12, od12, .func (PySem.W.fnOf "__len__" "Reader.__len__" (defArgs s_Reader_len) (defBody s_Reader_len) (defScope s_Reader_len) .none kV12 dc12 pm12 an12 cd12 ct12), sl12⟩)
    (e12 : PySem.W.codeIn K cd12 "Reader.__len__" = true)
    (k12 : PySem.W.keepIn K (.ref fn12) = true)
    (a13 : PySem.W.nsIn K mainGlobals "number_of" = some (some (.ref fn13)))
    (l13 : K.lookup fn13 = some ⟨oc13, od13, .func (PySem.W.fnOf "number_of" "number_of" (defArgs s_number_of) (defBody s_number_of) (defScope s_number_of) .none kV13 dc13 pm13 an13 cd13 ct13), sl13⟩)
    (e13 : PySem.W.codeIn K cd13 "number_of" = true)
    (k13 : PySem.W.keepIn K (.ref fn13) = true)
    (a14 : PySem.W.nsIn K mainGlobals "read_reader" = some (some (.ref fn14)))
    (l14 : K.lookup fn14 = some ⟨oc14, od14, .func (PySem.W.fnOf "read_reader" "read_reader" (defArgs s_read_reader) (defBody s_read_reader) (defScope s_read_reader) .none kV14 dc14 pm14 an14 cd14 ct14), sl14⟩)
    (e14 : PySem.W.codeIn K cd14 "read_reader" = true)
    (k14 : PySem.W.keepIn K (.ref fn14) = true)
    (a15 : PySem.W.nsIn K mainGlobals "_split" = some (some (.ref fn15)))
    (l15 : K.lookup fn15 = some ⟨oc15, od15, .func (PySem.W.fnOf "_split" "_split" (defArgs s__split) (defBody s__split) (defScope s__split) .none kV15 dc15 pm15 an15 cd15 ct15), sl15⟩)
    (e15 : PySem.W.codeIn K cd15 "_split" = true)
    (k15 : PySem.W.keepIn K (.ref fn15) = true)
    (a16 : PySem.W.nsIn K mainGlobals "_read_head" = some (some (.ref fn16)))
    (l16 : K.lookup fn16 = some ⟨oc16, od16, .func (PySem.W.fnOf "_read_head" "_read_head" (defArgs s__read_head) (defBody s__read_head) (defScope s__read_head) .none kV16 dc16 pm16 an16 cd16 ct16), sl16⟩)
    (e16 : PySem.W.codeIn K cd16 "_read_head" = true)
    (k16 : PySem.W.keepIn K (.ref fn16) = true)
    (a17 : PySem.W.nsIn K mainGlobals "_state_of" = some (some (.ref fn17)))
    (l17 : K.lookup fn17 = some ⟨oc17, od17, .func (PySem.W.fnOf "_state_of" "_state_of" (defArgs s__state_of) (defBody s__state_of) (defScope s__state_of) .none kV17 dc17 pm17 an17 cd17 ct17), sl17⟩)
    (e17 : PySem.W.codeIn K cd17 "_state_of" = true)
    (k17 : PySem.W.keepIn K (.ref fn17) = true)
    (a18 : PySem.W.nsIn K mainGlobals "_check_goals" = some (some (.ref fn18)))
    (l18 : K.lookup fn18 = some ⟨oc18, od18, .func (PySem.W.fnOf "_check_goals" "_check_goals" (defArgs s__check_goals) (defBody s__check_goals) (defScope s__check_goals) .none kV18 dc18 pm18 an18 cd18 ct18), sl18⟩)
    (e18 : PySem.W.codeIn K cd18 "_check_goals" = true)
    (k18 : PySem.W.keepIn K (.ref fn18) = true)
    (a19 : PySem.W.nsIn K mainGlobals "_law_open" = some (some (.ref fn19)))
    (l19 : K.lookup fn19 = some ⟨oc19, od19, .func (PySem.W.fnOf "_law_open" "_law_open" (defArgs s_open) (defBody s_open) (defScope s_open) .none kV19 dc19 pm19 an19 cd19 ct19), sl19⟩)
    (e19 : PySem.W.codeIn K cd19 "_law_open" = true)
    (k19 : PySem.W.keepIn K (.ref fn19) = true)
    (a20 : PySem.W.nsIn K mainGlobals "_law_draw" = some (some (.ref fn20)))
    (l20 : K.lookup fn20 = some ⟨oc20, od20, .func (PySem.W.fnOf "_law_draw" "_law_draw" (defArgs s_draw) (defBody s_draw) (defScope s_draw) .none kV20 dc20 pm20 an20 cd20 ct20), sl20⟩)
    (e20 : PySem.W.codeIn K cd20 "_law_draw" = true)
    (k20 : PySem.W.keepIn K (.ref fn20) = true)
    (a21 : PySem.W.nsIn K mainGlobals "_law_of" = some (some (.ref fn21)))
    (l21 : K.lookup fn21 = some ⟨oc21, od21, .func (PySem.W.fnOf "_law_of" "_law_of" (defArgs s_of) (defBody s_of) (defScope s_of) .none kV21 dc21 pm21 an21 cd21 ct21), sl21⟩)
    (e21 : PySem.W.codeIn K cd21 "_law_of" = true)
    (k21 : PySem.W.keepIn K (.ref fn21) = true)
    (a22 : PySem.W.nsIn K mainGlobals "_law_like" = some (some (.ref fn22)))
    (l22 : K.lookup fn22 = some ⟨oc22, od22, .func (PySem.W.fnOf "_law_like" "_law_like" (defArgs s_like) (defBody s_like) (defScope s_like) .none kV22 dc22 pm22 an22 cd22 ct22), sl22⟩)
    (e22 : PySem.W.codeIn K cd22 "_law_like" = true)
    (k22 : PySem.W.keepIn K (.ref fn22) = true)
    (a23 : PySem.W.nsIn K mainGlobals "_law_field" = some (some (.ref fn23)))
    (l23 : K.lookup fn23 = some ⟨oc23, od23, .func (PySem.W.fnOf "_law_field" "_law_field" (defArgs s_field) (defBody s_field) (defScope s_field) .none kV23 dc23 pm23 an23 cd23 ct23), sl23⟩)
    (e23 : PySem.W.codeIn K cd23 "_law_field" = true)
    (k23 : PySem.W.keepIn K (.ref fn23) = true)
    (a24 : PySem.W.nsIn K mainGlobals "_law_try" = some (some (.ref fn24)))
    (l24 : K.lookup fn24 = some ⟨oc24, od24, .func (PySem.W.fnOf "_law_try" "_law_try" (defArgs s_try) (defBody s_try) (defScope s_try) .none kV24 dc24 pm24 an24 cd24 ct24), sl24⟩)
    (e24 : PySem.W.codeIn K cd24 "_law_try" = true)
    (k24 : PySem.W.keepIn K (.ref fn24) = true)
    (a25 : PySem.W.nsIn K mainGlobals "_law_state" = some (some (.ref fn25)))
    (l25 : K.lookup fn25 = some ⟨oc25, od25, .func (PySem.W.fnOf "_law_state" "_law_state" (defArgs s_state) (defBody s_state) (defScope s_state) .none kV25 dc25 pm25 an25 cd25 ct25), sl25⟩)
    (e25 : PySem.W.codeIn K cd25 "_law_state" = true)
    (k25 : PySem.W.keepIn K (.ref fn25) = true)
    (a26 : PySem.W.nsIn K mainGlobals "_law_spec" = some (some (.ref fn26)))
    (l26 : K.lookup fn26 = some ⟨oc26, od26, .func (PySem.W.fnOf "_law_spec" "_law_spec" (defArgs s_spec) (defBody s_spec) (defScope s_spec) .none kV26 dc26 pm26 an26 cd26 ct26), sl26⟩)
    (e26 : PySem.W.codeIn K cd26 "_law_spec" = true)
    (k26 : PySem.W.keepIn K (.ref fn26) = true)
    (a27 : PySem.W.nsIn K mainGlobals "_law_good_spec" = some (some (.ref fn27)))
    (l27 : K.lookup fn27 = some ⟨oc27, od27, .func (PySem.W.fnOf "_law_good_spec" "_law_good_spec" (defArgs s_good_spec) (defBody s_good_spec) (defScope s_good_spec) .none kV27 dc27 pm27 an27 cd27 ct27), sl27⟩)
    (e27 : PySem.W.codeIn K cd27 "_law_good_spec" = true)
    (k27 : PySem.W.keepIn K (.ref fn27) = true)
    (a28 : PySem.W.nsIn K mainGlobals "_law_any_spec" = some (some (.ref fn28)))
    (l28 : K.lookup fn28 = some ⟨oc28, od28, .func (PySem.W.fnOf "_law_any_spec" "_law_any_spec" (defArgs s_any_spec) (defBody s_any_spec) (defScope s_any_spec) .none kV28 dc28 pm28 an28 cd28 ct28), sl28⟩)
    (e28 : PySem.W.codeIn K cd28 "_law_any_spec" = true)
    (k28 : PySem.W.keepIn K (.ref fn28) = true)
    (a29 : PySem.W.nsIn K mainGlobals "_law_goal_word" = some (some (.ref fn29)))
    (l29 : K.lookup fn29 = some ⟨oc29, od29, .func (PySem.W.fnOf "_law_goal_word" "_law_goal_word" (defArgs s_goal_word) (defBody s_goal_word) (defScope s_goal_word) .none kV29 dc29 pm29 an29 cd29 ct29), sl29⟩)
    (e29 : PySem.W.codeIn K cd29 "_law_goal_word" = true)
    (k29 : PySem.W.keepIn K (.ref fn29) = true)
    (a30 : PySem.W.nsIn K mainGlobals "_law_reader_lines" = some (some (.ref fn30)))
    (l30 : K.lookup fn30 = some ⟨oc30, od30, .func (PySem.W.fnOf "_law_reader_lines" "_law_reader_lines" (defArgs s_reader_lines) (defBody s_reader_lines) (defScope s_reader_lines) .none kV30 dc30 pm30 an30 cd30 ct30), sl30⟩)
    (e30 : PySem.W.codeIn K cd30 "_law_reader_lines" = true)
    (k30 : PySem.W.keepIn K (.ref fn30) = true)
    (a31 : PySem.W.nsIn K mainGlobals "_law_text" = some (some (.ref fn31)))
    (l31 : K.lookup fn31 = some ⟨oc31, od31, .func (PySem.W.fnOf "_law_text" "_law_text" (defArgs s_text) (defBody s_text) (defScope s_text) .none kV31 dc31 pm31 an31 cd31 ct31), sl31⟩)
    (e31 : PySem.W.codeIn K cd31 "_law_text" = true)
    (k31 : PySem.W.keepIn K (.ref fn31) = true)
    (a32 : PySem.W.nsIn K mainGlobals "_law_far_line" = some (some (.ref fn32)))
    (l32 : K.lookup fn32 = some ⟨oc32, od32, .func (PySem.W.fnOf "_law_far_line" "_law_far_line" (defArgs s_far_line) (defBody s_far_line) (defScope s_far_line) .none kV32 dc32 pm32 an32 cd32 ct32), sl32⟩)
    (e32 : PySem.W.codeIn K cd32 "_law_far_line" = true)
    (k32 : PySem.W.keepIn K (.ref fn32) = true)
    (a33 : PySem.W.nsIn K mainGlobals "_law_goals_so" = some (some (.ref fn33)))
    (l33 : K.lookup fn33 = some ⟨oc33, od33, .func (PySem.W.fnOf "_law_goals_so" "_law_goals_so" (defArgs s_goals_so) (defBody s_goals_so) (defScope s_goals_so) .none kV33 dc33 pm33 an33 (.ref cA_goals_so) ct33), sl33⟩)
    (e33 : PySem.W.codeIn K (.ref cA_goals_so) "_law_goals_so" = true)
    (k33 : PySem.W.keepIn K (.ref fn33) = true)
    (a34 : PySem.W.nsIn K mainGlobals "law" = some (some (.ref fn34)))
    (l34 : K.lookup fn34 = some ⟨oc34, od34, .func (PySem.W.fnOf "law" "law" (defArgs s_law) (defBody s_law) (defScope s_law) .none kV34 dc34 pm34 an34 (.ref cL) ct34), sl34⟩)
    (e34 : PySem.W.codeIn K (.ref cL) "law" = true)
    (k34 : PySem.W.keepIn K (.ref fn34) = true)
    (z1 : PySem.W.nsIn K mainGlobals "all" = some none)
    (z2 : PySem.W.nsIn K mainGlobals "any" = some none)
    (z3 : PySem.W.nsIn K mainGlobals "bool" = some none)
    (z4 : PySem.W.nsIn K mainGlobals "enumerate" = some none)
    (z5 : PySem.W.nsIn K mainGlobals "int" = some none)
    (z6 : PySem.W.nsIn K mainGlobals "isinstance" = some none)
    (z7 : PySem.W.nsIn K mainGlobals "len" = some none)
    (z8 : PySem.W.nsIn K mainGlobals "list" = some none)
    (z9 : PySem.W.nsIn K mainGlobals "range" = some none)
    (z10 : PySem.W.nsIn K mainGlobals "str" = some none)
    (z11 : PySem.W.nsIn K mainGlobals "tuple" = some none)
    (z12 : PySem.W.nsIn K mainGlobals "zip" = some none)
    (x1 : PySem.W.nsIn K mainGlobals "_MOST_SIZE" = some (some (.int 9 t__MOST_SIZE)))
    (x2 : PySem.W.nsIn K mainGlobals "_MOST_DIGITS" = some (some (.int 30 t__MOST_DIGITS)))
    (x3 : PySem.W.plainGet K c_Table Str.empty = true)
    (x4 : PySem.W.hasDictIn K c_Table = true)
    (x5 : PySem.W.plainOver K c_Table = true)
    (x6 : PySem.W.findIn K (.ref c_Table) "__setattr__" = some (some (.builtin "object.__setattr__")))
    (x7 : PySem.W.findIn K (.ref c_Table) "__class__" = some (some (.builtin "object.__class__")))
    (x8 : PySem.W.specialIn K (.builtin "object.__class__") "__get__" = some (some (.builtin "getset_descriptor.__get__")))
    (x9 : PySem.W.takesIn K (.builtin "object.__class__") = some true)
    (x10 : PySem.W.mroIn K c_Table (.type "object") = some true)
    (x11 : PySem.W.readsIn K c_Table (.type "type") = true)
    (x12 : PySem.W.specialIn K (.ref c_Table) "__getattribute__" = some (some (.builtin "type.__getattribute__")))
    (x13 : PySem.W.findCls K (.ref c_Table) (.type "type") "MOST_PARTS" = some (.val (.int 4 u_Table_MOST_PARTS)))
    (x14 : PySem.W.isClsIn K c_Table = true)
    (x15 : PySem.W.typeIn K (.ref c_Table) = some (.type "type"))
    (x16 : PySem.W.plainGet K c_Reader Str.empty = true)
    (x17 : PySem.W.hasDictIn K c_Reader = true)
    (x18 : PySem.W.plainOver K c_Reader = true)
    (x19 : PySem.W.findIn K (.ref c_Reader) "__setattr__" = some (some (.builtin "object.__setattr__")))
    (x20 : PySem.W.findIn K (.ref c_Reader) "__class__" = some (some (.builtin "object.__class__")))
    (x21 : PySem.W.specialIn K (.builtin "object.__class__") "__get__" = some (some (.builtin "getset_descriptor.__get__")))
    (x22 : PySem.W.takesIn K (.builtin "object.__class__") = some true)
    (x23 : PySem.W.mroIn K c_Reader (.type "object") = some true)
    (x24 : PySem.W.makesIn K c_Reader = true)
    (x25 : PySem.W.findIn K (.ref c_Reader) "__init__" = some (some (.ref fn11)))
    (x26 : PySem.W.isFn K (.ref fn11) = true)
    (x27 : PySem.W.keepIn K (.ref c_Reader) = true)
    (x28 : PySem.W.isFn K (.ref fn12) = true)
    (x29 : PySem.W.findIn K (.ref c_Reader) "_mark" = some none)
    (x30 : PySem.W.findIn K (.ref c_Reader) "_inner" = some none)
    (x31 : PySem.W.findIn K (.ref c_Reader) "_order" = some none)
    (x32 : PySem.W.findIn K (.ref c_Reader) "_states" = some none)
    (x33 : PySem.W.readsIn K c_Reader (.type "type") = true)
    (x34 : PySem.W.specialIn K (.ref c_Reader) "__getattribute__" = some (some (.builtin "type.__getattribute__")))
    (x35 : PySem.W.findCls K (.ref c_Reader) (.type "type") "MOST_STATES" = some (.val (.int 6 u_Reader_MOST_STATES)))
    (x36 : PySem.W.findCls K (.ref c_Reader) (.type "type") "MOST_ASK" = some (.val (.int 9 u_Reader_MOST_ASK)))
    (x37 : PySem.W.isClsIn K c_Reader = true)
    (x38 : PySem.W.typeIn K (.ref c_Reader) = some (.type "type"))
    (x39 : PySem.W.nsIn K kD11 "inner" = some (some (.str "up" tk11_inner)))
    (x40 : PySem.W.nsIn K kD11 "order" = some (some (.str "number" tk11_order)))
    (x41 : PySem.W.findCls K (.ref c_Reader) (.type "type") "MARKS" = some (.val (.ref ct_Reader_MARKS)))
    (x42 : K.lookup ct_Reader_MARKS = some ⟨.type "tuple", co_Reader_MARKS, .seq #[.str "key" wReader_MARKS_0, .str "from" wReader_MARKS_1, .str "row" wReader_MARKS_2, .str "each" wReader_MARKS_3, .str "count" wReader_MARKS_4, .str "rest" wReader_MARKS_5] cn_Reader_MARKS, cs_Reader_MARKS⟩)
    (x43 : PySem.W.findCls K (.ref c_Reader) (.type "type") "INNER" = some (.val (.ref ct_Reader_INNER)))
    (x44 : K.lookup ct_Reader_INNER = some ⟨.type "tuple", co_Reader_INNER, .seq #[.str "up" wReader_INNER_0, .str "down" wReader_INNER_1] cn_Reader_INNER, cs_Reader_INNER⟩)
    (x45 : PySem.W.findCls K (.ref c_Reader) (.type "type") "ORDERS" = some (.val (.ref ct_Reader_ORDERS)))
    (x46 : K.lookup ct_Reader_ORDERS = some ⟨.type "tuple", co_Reader_ORDERS, .seq #[.str "number" wReader_ORDERS_0, .str "back" wReader_ORDERS_1, .str "part" wReader_ORDERS_2] cn_Reader_ORDERS, cs_Reader_ORDERS⟩)
    (x47 : xcB K c_InvalidText fn2 ["code", "at", "number", "name", "line", "most", "first", "limit", "given"] = true)
    (x48 : PySem.W.exmAny K (.ref c_InvalidText) [.ref c_PartError, .ref c_Missing, .ref c_NothingLeft] = some true)
    (x49 : K.lookup cL = some ⟨ceL, cdL, .fields cvL, csL⟩)
    (x50 : cvL[11]? = some (.ref pL))
    (x51 : K.lookup pL = none)
    (x52 : PySem.W.codeHdIn K cL pL = true)
    (x53 : K.lookup cA_goals_so = some ⟨ceA_goals_so, cdA_goals_so, .fields cvA_goals_so, csA_goals_so⟩)
    (x54 : cvA_goals_so[11]? = some (.ref pA_goals_so))
    (x55 : K.lookup pA_goals_so = none)
    (x56 : PySem.W.codeHdIn K cA_goals_so pA_goals_so = true)
    (x57 : pL ≠ pA_goals_so) :
    (∀ m ∈ (["law", "_law_goals_so"] : List Str), ∀ f, mg m = some (.ref f) → LamX.OwnTab K f h) → LamX.LawAtS l w K CX0 44 63 "_law_script" mg fa h := by
  intro own
  have e := hfa.symm.trans (PySem.W.mg_of X G a34)
  cases e
  let T : Txt K mg :=
    { f_copied := fn1, fd_copied := (PySem.W.fnOf "copied" "copied" (defArgs s_copied) (defBody s_copied) (defScope s_copied) .none kV1 dc1 pm1 an1 cd1 ct1), F_copied := (fun_mk (st := s_copied) l1 e1 k1), k_copied := k1,
      g_copied := PySem.W.mg_of X G a1,
      bd_copied := ((fun_mk (st := s_copied) l1 e1 k1).binds (ps := ["value"]) fun _ _ _ _ _ _ us hl => match us, hl with | [_], _ => rfl),
      f_InvalidText_init := fn2, fd_InvalidText_init := (PySem.W.fnOf "__init__" "InvalidText.__init__" (defArgs s_InvalidText_init) (defBody s_InvalidText_init) (defScope s_InvalidText_init) .none kV2 dc2 pm2 an2 cd2 ct2), F_InvalidText_init := (fun_mk (st := s_InvalidText_init) l2 e2 k2), k_InvalidText_init := k2,
      bd_InvalidText_init := ((fun_mk (st := s_InvalidText_init) l2 e2 k2).binds (ps := ["self", "line"]) fun _ _ _ _ _ _ us hl => match us, hl with | [_, _], _ => rfl),
      f_is_whole := fn3, fd_is_whole := (PySem.W.fnOf "is_whole" "is_whole" (defArgs s_is_whole) (defBody s_is_whole) (defScope s_is_whole) .none kV3 dc3 pm3 an3 cd3 ct3), F_is_whole := (fun_mk (st := s_is_whole) l3 e3 k3), k_is_whole := k3,
      g_is_whole := PySem.W.mg_of X G a3,
      bd_is_whole := ((fun_mk (st := s_is_whole) l3 e3 k3).binds (ps := ["value"]) fun _ _ _ _ _ _ us hl => match us, hl with | [_], _ => rfl),
      f_is_number := fn4, fd_is_number := (PySem.W.fnOf "is_number" "is_number" (defArgs s_is_number) (defBody s_is_number) (defScope s_is_number) .none kV4 dc4 pm4 an4 cd4 ct4), F_is_number := (fun_mk (st := s_is_number) l4 e4 k4), k_is_number := k4,
      g_is_number := PySem.W.mg_of X G a4,
      bd_is_number := ((fun_mk (st := s_is_number) l4 e4 k4).binds (ps := ["value", "least", "most"]) fun _ _ _ _ _ _ us hl => match us, hl with | [_, _, _], _ => rfl),
      f__is_ask := fn5, fd__is_ask := (PySem.W.fnOf "_is_ask" "_is_ask" (defArgs s__is_ask) (defBody s__is_ask) (defScope s__is_ask) .none kV5 dc5 pm5 an5 cd5 ct5), F__is_ask := (fun_mk (st := s__is_ask) l5 e5 k5), k__is_ask := k5,
      g__is_ask := PySem.W.mg_of X G a5,
      bd__is_ask := ((fun_mk (st := s__is_ask) l5 e5 k5).binds (ps := ["value"]) fun _ _ _ _ _ _ us hl => match us, hl with | [_], _ => rfl),
      f__are_asks := fn6, fd__are_asks := (PySem.W.fnOf "_are_asks" "_are_asks" (defArgs s__are_asks) (defBody s__are_asks) (defScope s__are_asks) .none kV6 dc6 pm6 an6 cd6 ct6), F__are_asks := (fun_mk (st := s__are_asks) l6 e6 k6), k__are_asks := k6,
      g__are_asks := PySem.W.mg_of X G a6,
      bd__are_asks := ((fun_mk (st := s__are_asks) l6 e6 k6).binds (ps := ["value"]) fun _ _ _ _ _ _ us hl => match us, hl with | [_], _ => rfl),
      f__is_following := fn7, fd__is_following := (PySem.W.fnOf "_is_following" "_is_following" (defArgs s__is_following) (defBody s__is_following) (defScope s__is_following) .none kV7 dc7 pm7 an7 cd7 ct7), F__is_following := (fun_mk (st := s__is_following) l7 e7 k7), k__is_following := k7,
      g__is_following := PySem.W.mg_of X G a7,
      bd__is_following := ((fun_mk (st := s__is_following) l7 e7 k7).binds (ps := ["value", "many"]) fun _ _ _ _ _ _ us hl => match us, hl with | [_, _], _ => rfl),
      f__is_state := fn8, fd__is_state := (PySem.W.fnOf "is_state" "is_state" (defArgs s__is_state) (defBody s__is_state) (defScope s__is_state) .none kV8 dc8 pm8 an8 cd8 ct8), F__is_state := (fun_mk (st := s__is_state) l8 e8 k8), k__is_state := k8,
      g__is_state := PySem.W.mg_of X G a8,
      bd__is_state := ((fun_mk (st := s__is_state) l8 e8 k8).binds (ps := ["value", "many"]) fun _ _ _ _ _ _ us hl => match us, hl with | [_, _], _ => rfl),
      f_check_orders := fn9, fd_check_orders := (PySem.W.fnOf "check_orders" "check_orders" (defArgs s_check_orders) (defBody s_check_orders) (defScope s_check_orders) .none kV9 dc9 pm9 an9 cd9 ct9), F_check_orders := (fun_mk (st := s_check_orders) l9 e9 k9), k_check_orders := k9,
      g_check_orders := PySem.W.mg_of X G a9,
      bd_check_orders := ((fun_mk (st := s_check_orders) l9 e9 k9).binds (ps := ["inner", "order"]) fun _ _ _ _ _ _ us hl => match us, hl with | [_, _], _ => rfl),
      f__check_states := fn10, fd__check_states := (PySem.W.fnOf "_check_states" "_check_states" (defArgs s__check_states) (defBody s__check_states) (defScope s__check_states) .none kV10 dc10 pm10 an10 cd10 ct10), F__check_states := (fun_mk (st := s__check_states) l10 e10 k10), k__check_states := k10,
      g__check_states := PySem.W.mg_of X G a10,
      bd__check_states := ((fun_mk (st := s__check_states) l10 e10 k10).binds (ps := ["states"]) fun _ _ _ _ _ _ us hl => match us, hl with | [_], _ => rfl),
      f_Reader_init := fn11, fd_Reader_init := (PySem.W.fnOf "__init__" "Reader.__init__" (defArgs s_Reader_init) (defBody s_Reader_init) (defScope s_Reader_init) .none (.ref kD11) dc11 pm11 an11 cd11 ct11), F_Reader_init := (fun_mk (st := s_Reader_init) l11 e11 k11), k_Reader_init := k11,
      FD_Reader_init := ⟨⟨_, _, _, _, _, _, _, _, _, _, rfl, l11, e11, .inl ⟨rfl, rfl⟩, .inr ⟨_, rfl, fun q hq => (by
        simp only [List.mem_cons, List.not_mem_nil, or_false] at hq
        rcases hq with rfl | rfl
        · exact ⟨_, x39, ⟨_, rfl⟩⟩
        · exact ⟨_, x40, ⟨_, rfl⟩⟩)⟩⟩, k11⟩,
      f_Reader_len := fn12, fd_Reader_len := (PySem.W.fnOf "__len__" "Reader.__len__" (defArgs s_Reader_len) (defBody s_Reader_len) (defScope s_Reader_len) .none kV12 dc12 pm12 an12 cd12 ct12), F_Reader_len := (fun_mk (st := s_Reader_len) l12 e12 k12), k_Reader_len := k12,
      bd_Reader_len := ((fun_mk (st := s_Reader_len) l12 e12 k12).binds (ps := ["self"]) fun _ _ _ _ _ _ us hl => match us, hl with | [_], _ => rfl),
      f_number_of := fn13, fd_number_of := (PySem.W.fnOf "number_of" "number_of" (defArgs s_number_of) (defBody s_number_of) (defScope s_number_of) .none kV13 dc13 pm13 an13 cd13 ct13), F_number_of := (fun_mk (st := s_number_of) l13 e13 k13), k_number_of := k13,
      g_number_of := PySem.W.mg_of X G a13,
      bd_number_of := ((fun_mk (st := s_number_of) l13 e13 k13).binds (ps := ["word"]) fun _ _ _ _ _ _ us hl => match us, hl with | [_], _ => rfl),
      f_read_reader := fn14, fd_read_reader := (PySem.W.fnOf "read_reader" "read_reader" (defArgs s_read_reader) (defBody s_read_reader) (defScope s_read_reader) .none kV14 dc14 pm14 an14 cd14 ct14), F_read_reader := (fun_mk (st := s_read_reader) l14 e14 k14), k_read_reader := k14,
      g_read_reader := PySem.W.mg_of X G a14,
      bd_read_reader := ((fun_mk (st := s_read_reader) l14 e14 k14).binds (ps := ["text"]) fun _ _ _ _ _ _ us hl => match us, hl with | [_], _ => rfl),
      f__split := fn15, fd__split := (PySem.W.fnOf "_split" "_split" (defArgs s__split) (defBody s__split) (defScope s__split) .none kV15 dc15 pm15 an15 cd15 ct15), F__split := (fun_mk (st := s__split) l15 e15 k15), k__split := k15,
      g__split := PySem.W.mg_of X G a15,
      bd__split := ((fun_mk (st := s__split) l15 e15 k15).binds (ps := ["text"]) fun _ _ _ _ _ _ us hl => match us, hl with | [_], _ => rfl),
      f__read_head := fn16, fd__read_head := (PySem.W.fnOf "_read_head" "_read_head" (defArgs s__read_head) (defBody s__read_head) (defScope s__read_head) .none kV16 dc16 pm16 an16 cd16 ct16), F__read_head := (fun_mk (st := s__read_head) l16 e16 k16), k__read_head := k16,
      g__read_head := PySem.W.mg_of X G a16,
      bd__read_head := ((fun_mk (st := s__read_head) l16 e16 k16).binds (ps := ["line"]) fun _ _ _ _ _ _ us hl => match us, hl with | [_], _ => rfl),
      f__state_of := fn17, fd__state_of := (PySem.W.fnOf "_state_of" "_state_of" (defArgs s__state_of) (defBody s__state_of) (defScope s__state_of) .none kV17 dc17 pm17 an17 cd17 ct17), F__state_of := (fun_mk (st := s__state_of) l17 e17 k17), k__state_of := k17,
      g__state_of := PySem.W.mg_of X G a17,
      bd__state_of := ((fun_mk (st := s__state_of) l17 e17 k17).binds (ps := ["line"]) fun _ _ _ _ _ _ us hl => match us, hl with | [_], _ => rfl),
      f__check_goals := fn18, fd__check_goals := (PySem.W.fnOf "_check_goals" "_check_goals" (defArgs s__check_goals) (defBody s__check_goals) (defScope s__check_goals) .none kV18 dc18 pm18 an18 cd18 ct18), F__check_goals := (fun_mk (st := s__check_goals) l18 e18 k18), k__check_goals := k18,
      g__check_goals := PySem.W.mg_of X G a18,
      bd__check_goals := ((fun_mk (st := s__check_goals) l18 e18 k18).binds (ps := ["states"]) fun _ _ _ _ _ _ us hl => match us, hl with | [_], _ => rfl),
      f_open := fn19, fd_open := (PySem.W.fnOf "_law_open" "_law_open" (defArgs s_open) (defBody s_open) (defScope s_open) .none kV19 dc19 pm19 an19 cd19 ct19), F_open := (fun_mk (st := s_open) l19 e19 k19), k_open := k19,
      g_open := PySem.W.mg_of X G a19,
      bd_open := ((fun_mk (st := s_open) l19 e19 k19).binds (ps := ["_law_script"]) fun _ _ _ _ _ _ us hl => match us, hl with | [_], _ => rfl),
      f_draw := fn20, fd_draw := (PySem.W.fnOf "_law_draw" "_law_draw" (defArgs s_draw) (defBody s_draw) (defScope s_draw) .none kV20 dc20 pm20 an20 cd20 ct20), F_draw := (fun_mk (st := s_draw) l20 e20 k20), k_draw := k20,
      g_draw := PySem.W.mg_of X G a20,
      bd_draw := ((fun_mk (st := s_draw) l20 e20 k20).binds (ps := ["_law_bag", "_law_many"]) fun _ _ _ _ _ _ us hl => match us, hl with | [_, _], _ => rfl),
      f_of := fn21, fd_of := (PySem.W.fnOf "_law_of" "_law_of" (defArgs s_of) (defBody s_of) (defScope s_of) .none kV21 dc21 pm21 an21 cd21 ct21), F_of := (fun_mk (st := s_of) l21 e21 k21), k_of := k21,
      g_of := PySem.W.mg_of X G a21,
      bd_of := ((fun_mk (st := s_of) l21 e21 k21).binds (ps := ["_law_bag", "_law_things"]) fun _ _ _ _ _ _ us hl => match us, hl with | [_, _], _ => rfl),
      f_like := fn22, fd_like := (PySem.W.fnOf "_law_like" "_law_like" (defArgs s_like) (defBody s_like) (defScope s_like) .none kV22 dc22 pm22 an22 cd22 ct22), F_like := (fun_mk (st := s_like) l22 e22 k22), k_like := k22,
      g_like := PySem.W.mg_of X G a22,
      bd_like := ((fun_mk (st := s_like) l22 e22 k22).binds (ps := ["_law_found", "_law_due"]) fun _ _ _ _ _ _ us hl => match us, hl with | [_, _], _ => rfl),
      f_field := fn23, fd_field := (PySem.W.fnOf "_law_field" "_law_field" (defArgs s_field) (defBody s_field) (defScope s_field) .none kV23 dc23 pm23 an23 cd23 ct23), F_field := (fun_mk (st := s_field) l23 e23 k23), k_field := k23,
      g_field := PySem.W.mg_of X G a23,
      bd_field := ((fun_mk (st := s_field) l23 e23 k23).binds (ps := ["_law_e"]) fun _ _ _ _ _ _ us hl => match us, hl with | [_], _ => rfl),
      f_try := fn24, fd_try := (PySem.W.fnOf "_law_try" "_law_try" (defArgs s_try) (defBody s_try) (defScope s_try) .none kV24 dc24 pm24 an24 cd24 ct24), F_try := (fun_mk (st := s_try) l24 e24 k24), k_try := k24,
      g_try := PySem.W.mg_of X G a24,
      bd_try := ((fun_mk (st := s_try) l24 e24 k24).binds (ps := ["_law_ask"]) fun _ _ _ _ _ _ us hl => match us, hl with | [_], _ => rfl),
      f_state := fn25, fd_state := (PySem.W.fnOf "_law_state" "_law_state" (defArgs s_state) (defBody s_state) (defScope s_state) .none kV25 dc25 pm25 an25 cd25 ct25), F_state := (fun_mk (st := s_state) l25 e25 k25), k_state := k25,
      g_state := PySem.W.mg_of X G a25,
      bd_state := ((fun_mk (st := s_state) l25 e25 k25).binds (ps := ["_law_bag", "_law_parts", "_law_many"]) fun _ _ _ _ _ _ us hl => match us, hl with | [_, _, _], _ => rfl),
      f_spec := fn26, fd_spec := (PySem.W.fnOf "_law_spec" "_law_spec" (defArgs s_spec) (defBody s_spec) (defScope s_spec) .none kV26 dc26 pm26 an26 cd26 ct26), F_spec := (fun_mk (st := s_spec) l26 e26 k26), k_spec := k26,
      g_spec := PySem.W.mg_of X G a26,
      bd_spec := ((fun_mk (st := s_spec) l26 e26 k26).binds (ps := ["_law_bag", "_law_parts", "_law_most"]) fun _ _ _ _ _ _ us hl => match us, hl with | [_, _, _], _ => rfl),
      f_good_spec := fn27, fd_good_spec := (PySem.W.fnOf "_law_good_spec" "_law_good_spec" (defArgs s_good_spec) (defBody s_good_spec) (defScope s_good_spec) .none kV27 dc27 pm27 an27 cd27 ct27), F_good_spec := (fun_mk (st := s_good_spec) l27 e27 k27), k_good_spec := k27,
      g_good_spec := PySem.W.mg_of X G a27,
      bd_good_spec := ((fun_mk (st := s_good_spec) l27 e27 k27).binds (ps := ["_law_bag", "_law_parts", "_law_most"]) fun _ _ _ _ _ _ us hl => match us, hl with | [_, _, _], _ => rfl),
      f_any_spec := fn28, fd_any_spec := (PySem.W.fnOf "_law_any_spec" "_law_any_spec" (defArgs s_any_spec) (defBody s_any_spec) (defScope s_any_spec) .none kV28 dc28 pm28 an28 cd28 ct28), F_any_spec := (fun_mk (st := s_any_spec) l28 e28 k28), k_any_spec := k28,
      g_any_spec := PySem.W.mg_of X G a28,
      bd_any_spec := ((fun_mk (st := s_any_spec) l28 e28 k28).binds (ps := ["_law_bag", "_law_parts", "_law_most"]) fun _ _ _ _ _ _ us hl => match us, hl with | [_, _, _], _ => rfl),
      f_goal_word := fn29, fd_goal_word := (PySem.W.fnOf "_law_goal_word" "_law_goal_word" (defArgs s_goal_word) (defBody s_goal_word) (defScope s_goal_word) .none kV29 dc29 pm29 an29 cd29 ct29), F_goal_word := (fun_mk (st := s_goal_word) l29 e29 k29), k_goal_word := k29,
      g_goal_word := PySem.W.mg_of X G a29,
      bd_goal_word := ((fun_mk (st := s_goal_word) l29 e29 k29).binds (ps := ["_law_goal"]) fun _ _ _ _ _ _ us hl => match us, hl with | [_], _ => rfl),
      f_reader_lines := fn30, fd_reader_lines := (PySem.W.fnOf "_law_reader_lines" "_law_reader_lines" (defArgs s_reader_lines) (defBody s_reader_lines) (defScope s_reader_lines) .none kV30 dc30 pm30 an30 cd30 ct30), F_reader_lines := (fun_mk (st := s_reader_lines) l30 e30 k30), k_reader_lines := k30,
      g_reader_lines := PySem.W.mg_of X G a30,
      bd_reader_lines := ((fun_mk (st := s_reader_lines) l30 e30 k30).binds (ps := ["_law_spec_here"]) fun _ _ _ _ _ _ us hl => match us, hl with | [_], _ => rfl),
      f_text := fn31, fd_text := (PySem.W.fnOf "_law_text" "_law_text" (defArgs s_text) (defBody s_text) (defScope s_text) .none kV31 dc31 pm31 an31 cd31 ct31), F_text := (fun_mk (st := s_text) l31 e31 k31), k_text := k31,
      g_text := PySem.W.mg_of X G a31,
      bd_text := ((fun_mk (st := s_text) l31 e31 k31).binds (ps := ["_law_lines"]) fun _ _ _ _ _ _ us hl => match us, hl with | [_], _ => rfl),
      f_far_line := fn32, fd_far_line := (PySem.W.fnOf "_law_far_line" "_law_far_line" (defArgs s_far_line) (defBody s_far_line) (defScope s_far_line) .none kV32 dc32 pm32 an32 cd32 ct32), F_far_line := (fun_mk (st := s_far_line) l32 e32 k32), k_far_line := k32,
      g_far_line := PySem.W.mg_of X G a32,
      bd_far_line := ((fun_mk (st := s_far_line) l32 e32 k32).binds (ps := ["_law_spec_here", "_law_slot", "_law_goal"]) fun _ _ _ _ _ _ us hl => match us, hl with | [_, _, _], _ => rfl),
      f_goals_so := fn33, fd_goals_so := (PySem.W.fnOf "_law_goals_so" "_law_goals_so" (defArgs s_goals_so) (defBody s_goals_so) (defScope s_goals_so) .none kV33 dc33 pm33 an33 (.ref cA_goals_so) ct33), F_goals_so := (fun_mk (st := s_goals_so) l33 e33 k33), k_goals_so := k33,
      g_goals_so := PySem.W.mg_of X G a33,
      bd_goals_so := ((fun_mk (st := s_goals_so) l33 e33 k33).binds (ps := ["_law_bag", "_law_spec_here", "_law_lines", "_law_at"]) fun _ _ _ _ _ _ us hl => match us, hl with | [_, _, _, _], _ => rfl),
      f_law := fa, fd_law := (PySem.W.fnOf "law" "law" (defArgs s_law) (defBody s_law) (defScope s_law) .none kV34 dc34 pm34 an34 (.ref cL) ct34), F_law := (fun_mk (st := s_law) l34 e34 k34), k_law := k34,
      g_law := PySem.W.mg_of X G a34,
      bd_law := ((fun_mk (st := s_law) l34 e34 k34).binds (ps := ["_law_script"]) fun _ _ _ _ _ _ us hl => match us, hl with | [_], _ => rfl),
      b_all := PySem.W.mg_none_of X G z1,
      b_any := PySem.W.mg_none_of X G z2,
      b_bool := PySem.W.mg_none_of X G z3,
      b_enumerate := PySem.W.mg_none_of X G z4,
      b_int := PySem.W.mg_none_of X G z5,
      b_isinstance := PySem.W.mg_none_of X G z6,
      b_len := PySem.W.mg_none_of X G z7,
      b_list := PySem.W.mg_none_of X G z8,
      b_range := PySem.W.mg_none_of X G z9,
      b_str := PySem.W.mg_none_of X G z10,
      b_tuple := PySem.W.mg_none_of X G z11,
      b_zip := PySem.W.mg_none_of X G z12,
      t__MOST_SIZE := t__MOST_SIZE,
      g__MOST_SIZE := PySem.W.mg_of X G x1,
      t__MOST_DIGITS := t__MOST_DIGITS,
      g__MOST_DIGITS := PySem.W.mg_of X G x2,
      c_Table := c_Table,
      g_Table := PySem.W.mg_of X G y_Table,
      cf_Table := ⟨⟨x3, x4, x5, x6⟩, x7, x8, x9, x10⟩,
      mc_Table := .type "type",
      cr_Table := ⟨x11, x12⟩,
      cv_Table_MOST_PARTS := ⟨.int 4 u_Table_MOST_PARTS, x13, ⟨_, rfl⟩⟩,
      c_Reader := c_Reader,
      g_Reader := PySem.W.mg_of X G y_Reader,
      cf_Reader := ⟨⟨x16, x17, x18, x19⟩, x20, x21, x22, x23⟩,
      mk_Reader := ⟨x24, x25, x26, x27⟩,
      dn_Reader_len := a12,
      fn_Reader_len := x28,
      na_Reader_mark := x29,
      na_Reader_inner := x30,
      na_Reader_order := x31,
      na_Reader_states := x32,
      mc_Reader := .type "type",
      cr_Reader := ⟨x33, x34⟩,
      cv_Reader_MOST_STATES := ⟨.int 6 u_Reader_MOST_STATES, x35, ⟨_, rfl⟩⟩,
      cv_Reader_MOST_ASK := ⟨.int 9 u_Reader_MOST_ASK, x36, ⟨_, rfl⟩⟩,
      ct_Reader_MARKS := ⟨_, _, ⟨x41, rfl⟩, fun H => .inr ⟨_, _, _, x42, rfl, rfl, sz_of (Nat.le_of_ble_eq_true rfl), (.cons ⟨_, rfl⟩ (.cons ⟨_, rfl⟩ (.cons ⟨_, rfl⟩ (.cons ⟨_, rfl⟩ (.cons ⟨_, rfl⟩ (.cons ⟨_, rfl⟩ .nil))))))⟩⟩,
      ct_Reader_INNER := ⟨_, _, ⟨x43, rfl⟩, fun H => .inr ⟨_, _, _, x44, rfl, rfl, sz_of (Nat.le_of_ble_eq_true rfl), (.cons ⟨_, rfl⟩ (.cons ⟨_, rfl⟩ .nil))⟩⟩,
      ct_Reader_ORDERS := ⟨_, _, ⟨x45, rfl⟩, fun H => .inr ⟨_, _, _, x46, rfl, rfl, sz_of (Nat.le_of_ble_eq_true rfl), (.cons ⟨_, rfl⟩ (.cons ⟨_, rfl⟩ (.cons ⟨_, rfl⟩ .nil)))⟩⟩,
      c_PartError := c_PartError,
      g_PartError := PySem.W.mg_of X G y_PartError,
      c_Missing := c_Missing,
      g_Missing := PySem.W.mg_of X G y_Missing,
      c_NothingLeft := c_NothingLeft,
      g_NothingLeft := PySem.W.mg_of X G y_NothingLeft,
      c_InvalidText := c_InvalidText,
      g_InvalidText := PySem.W.mg_of X G y_InvalidText,
      xa_InvalidText := xcB_ok x47,
      ex_InvalidText := x48,
      cL := cL,
      pL := pL,
      FC_law := ⟨⟨_, _, _, _, _, _, _, _, rfl, l34, e34⟩⟩,
      cA_goals_so := cA_goals_so,
      pA_goals_so := pA_goals_so,
      FC_goals_so := ⟨⟨_, _, _, _, _, _, _, _, rfl, l33, e33⟩⟩,
      pne_goals_so := x57 }
  refine ⟨T.fd_law, [(cL, pL), (cA_goals_so, pA_goals_so)], spLawTs K [pL, pA_goals_so], fun p hp => ?_, fun p hp => ?_, fun p hp => ?_, fun s v => .of_eq rfl, fun H a ns hl hb hH hS => ⟨a, ns, rfl, hS, hl, fun p hp => ?_, fun _ => rfl⟩, fun base _ _ TB => ok_law T (TB (cL, pL) (by simp)) (TB (cA_goals_so, pA_goals_so) (by simp))⟩
  · simp only [List.mem_cons, List.not_mem_nil, or_false] at hp
    rcases hp with rfl | rfl
    · exact own "law" (by simp) _ (PySem.W.mg_of X G a34) cL pL _ _ _ _ _ _ l34 rfl rfl x49 x50
    · exact own "_law_goals_so" (by simp) _ (PySem.W.mg_of X G a33) cA_goals_so pA_goals_so _ _ _ _ _ _ l33 rfl rfl x53 x54
  · simp only [List.mem_cons, List.not_mem_nil, or_false] at hp
    rcases hp with rfl | rfl
    · exact x51
    · exact x55
  · simp only [List.mem_cons, List.not_mem_nil, or_false] at hp
    rcases hp with rfl | rfl
    · exact PySem.W.codeHd_of_K X x52
    · exact PySem.W.codeHd_of_K X x56
  · simp only [List.mem_cons, List.not_mem_nil, or_false] at hp
    rcases hp with e | e
    · exact e ▸ hH (cL, pL) (by simp)
    · exact e ▸ hH (cA_goals_so, pA_goals_so) (by simp)
theorem walk {l : PySem.W.OpenLaw} {q : Program} {loose : List Str} {XP : (Str → Option Value) → Heap → Prop} {YP : World → Heap → Prop} {d : DefRec} {K : Params → PySem.W.Frag} (hn : l.most = some 63) (hdf : d.params.defaults = []) (hrec : ∀ m ∈ (["law", "_law_goals_so"] : List Str), ((PyProof.Rows.recsOf q).any fun e => e.name == m) = true)
    (hY : ∀ (w : World) (h : Heap), YP w h → (K w.params).In h)
    (F : ∀ (w : World) (mg : Str → Option Value) (fa : Addr) (h : Heap), (K w.params).In h → h.Ns mainGlobals mg → mg d.name = some (.ref fa) → (∀ m ∈ (["law", "_law_goals_so"] : List Str), ∀ f, mg m = some (.ref f) → LamX.OwnTab (K w.params) f h) → LamX.LawAtS l w (K w.params) CX0 44 63 "_law_script" mg fa h) :
    PySem.W.WalkO q loose XP YP l.row.toRowW d [] (fun f vs => PySem.call f vs) :=
  walk_ofOwns (n := 63) (k := 44) (x := "_law_script") (CX := fun _ => CX0) (["law", "_law_goals_so"] : List Str) hn (by decide) hdf ⟨rfl, by decide, by decide⟩ hrec hY (fun w mg fa h _ => F w mg fa h) fun _ _ _ _ _ z => z
end Pf
open PySem PySem.W PyProof.Rows
set_option maxRecDepth 100000 in
set_option maxHeartbeats 0 in
theorem PySem.Challenge.cw_partfirsts_k60_texts_of_readers_refused_holds : PySem.Challenge.rw_partfirsts_k60_texts_of_readers_refused.Holds := by
  w_on; o_law; k_head; (case hw => w_witness2)
  k_fill
  refine Pf.walk (l := PySem.Challenge.rw_partfirsts_k60_texts_of_readers_refused) rfl rfl (by
    intro m hm
    simp only [List.mem_cons, List.not_mem_nil, or_false] at hm
    rcases hm with rfl | rfl
    all_goals first | rfl | decide +kernel) (fun w h Y => PySem.W.km_in_of Y) ?F
  case F =>
    intro w mg fa h KX G hmg own
    refine' Pf.all_mk KX G hmg ?y_Table ?y_Reader ?y_PartError ?y_Missing ?y_NothingLeft ?y_InvalidText ?a1 ?l1 ?e1 ?k1 ?a2 ?l2 ?e2 ?k2 ?a3 ?l3 ?e3 ?k3 ?a4 ?l4 ?e4 ?k4 ?a5 ?l5 ?e5 ?k5 ?a6 ?l6 ?e6 ?k6 ?a7 ?l7 ?e7 ?k7 ?a8 ?l8 ?e8 ?k8 ?a9 ?l9 ?e9 ?k9 ?a10 ?l10 ?e10 ?k10 ?a11 ?l11 ?e11 ?k11 ?a12 ?l12 ?e12 ?k12 ?a13 ?l13 ?e13 ?k13 ?a14 ?l14 ?e14 ?k14 ?a15 ?l15 ?e15 ?k15 ?a16 ?l16 ?e16 ?k16 ?a17 ?l17 ?e17 ?k17 ?a18 ?l18 ?e18 ?k18 ?a19 ?l19 ?e19 ?k19 ?a20 ?l20 ?e20 ?k20 ?a21 ?l21 ?e21 ?k21 ?a22 ?l22 ?e22 ?k22 ?a23 ?l23 ?e23 ?k23 ?a24 ?l24 ?e24 ?k24 ?a25 ?l25 ?e25 ?k25 ?a26 ?l26 ?e26 ?k26 ?a27 ?l27 ?e27 ?k27 ?a28 ?l28 ?e28 ?k28 ?a29 ?l29 ?e29 ?k29 ?a30 ?l30 ?e30 ?k30 ?a31 ?l31 ?e31 ?k31 ?a32 ?l32 ?e32 ?k32 ?a33 ?l33 ?e33 ?k33 ?a34 ?l34 ?e34 ?k34 ?z1 ?z2 ?z3 ?z4 ?z5 ?z6 ?z7 ?z8 ?z9 ?z10 ?z11 ?z12 ?x1 ?x2 ?x3 ?x4 ?x5 ?x6 ?x7 ?x8 ?x9 ?x10 ?x11 ?x12 ?x13 ?x14 ?x15 ?x16 ?x17 ?x18 ?x19 ?x20 ?x21 ?x22 ?x23 ?x24 ?x25 ?x26 ?x27 ?x28 ?x29 ?x30 ?x31 ?x32 ?x33 ?x34 ?x35 ?x36 ?x37 ?x38 ?x39 ?x40 ?x41 ?x42 ?x43 ?x44 ?x45 ?x46 ?x47 ?x48 ?x49 ?x50 ?x51 ?x52 ?x53 ?x54 ?x55 ?x56 ?x57 own
    (case y_Table => k_is)
    (case y_Reader => k_is)
    (case y_PartError => k_is)
    (case y_Missing => k_is)
    (case y_NothingLeft => k_is)
    (case y_InvalidText => k_is)
    (case a1 => k_is)
    (case l1 => k_is)
    (case e1 => k_is)
    (case k1 => k_is)
    (case a2 => k_is)
    (case l2 => k_is)
    (case e2 => k_is)
    (case k2 => k_is)
    (case a3 => k_is)
    (case l3 => k_is)
    (case e3 => k_is)
    (case k3 => k_is)
    (case a4 => k_is)
    (case l4 => k_is)
    (case e4 => k_is)
    (case k4 => k_is)
    (case a5 => k_is)
    (case l5 => k_is)
    (case e5 => k_is)
    (case k5 => k_is)
    (case a6 => k_is)
    (case l6 => k_is)
    (case e6 => k_is)
    (case k6 => k_is)
    (case a7 => k_is)
    (case l7 => k_is)
    (case e7 => k_is)
    (case k7 => k_is)
    (case a8 => k_is)
    (case l8 => k_is)
    (case e8 => k_is)
    (case k8 => k_is)
    (case a9 => k_is)
    (case l9 => k_is)
    (case e9 => k_is)
    (case k9 => k_is)
    (case a10 => k_is)
    (case l10 => k_is)
    (case e10 => k_is)
    (case k10 => k_is)
    (case a11 => k_is)
    (case l11 => k_is)
    (case e11 => k_is)
    (case k11 => k_is)
    (case a12 => k_is)
    (case l12 => k_is)
    (case e12 => k_is)
    (case k12 => k_is)
    (case a13 => k_is)
    (case l13 => k_is)
    (case e13 => k_is)
    (case k13 => k_is)
    (case a14 => k_is)
    (case l14 => k_is)
    (case e14 => k_is)
    (case k14 => k_is)
    (case a15 => k_is)
    (case l15 => k_is)
    (case e15 => k_is)
    (case k15 => k_is)
    (case a16 => k_is)
    (case l16 => k_is)
    (case e16 => k_is)
    (case k16 => k_is)
    (case a17 => k_is)
    (case l17 => k_is)
    (case e17 => k_is)
    (case k17 => k_is)
    (case a18 => k_is)
    (case l18 => k_is)
    (case e18 => k_is)
    (case k18 => k_is)
    (case a19 => k_is)
    (case l19 => k_is)
    (case e19 => k_is)
    (case k19 => k_is)
    (case a20 => k_is)
    (case l20 => k_is)
    (case e20 => k_is)
    (case k20 => k_is)
    (case a21 => k_is)
    (case l21 => k_is)
    (case e21 => k_is)
    (case k21 => k_is)
    (case a22 => k_is)
    (case l22 => k_is)
    (case e22 => k_is)
    (case k22 => k_is)
    (case a23 => k_is)
    (case l23 => k_is)
    (case e23 => k_is)
    (case k23 => k_is)
    (case a24 => k_is)
    (case l24 => k_is)
    (case e24 => k_is)
    (case k24 => k_is)
    (case a25 => k_is)
    (case l25 => k_is)
    (case e25 => k_is)
    (case k25 => k_is)
    (case a26 => k_is)
    (case l26 => k_is)
    (case e26 => k_is)
    (case k26 => k_is)
    (case a27 => k_is)
    (case l27 => k_is)
    (case e27 => k_is)
    (case k27 => k_is)
    (case a28 => k_is)
    (case l28 => k_is)
    (case e28 => k_is)
    (case k28 => k_is)
    (case a29 => k_is)
    (case l29 => k_is)
    (case e29 => k_is)
    (case k29 => k_is)
    (case a30 => k_is)
    (case l30 => k_is)
    (case e30 => k_is)
    (case k30 => k_is)
    (case a31 => k_is)
    (case l31 => k_is)
    (case e31 => k_is)
    (case k31 => k_is)
    (case a32 => k_is)
    (case l32 => k_is)
    (case e32 => k_is)
    (case k32 => k_is)
    (case a33 => k_is)
    (case l33 => k_is)
    (case e33 => k_is)
    (case k33 => k_is)
    (case a34 => k_is)
    (case l34 => k_is)
    (case e34 => k_is)
    (case k34 => k_is)
    (case z1 => k_is)
    (case z2 => k_is)
    (case z3 => k_is)
    (case z4 => k_is)
    (case z5 => k_is)
    (case z6 => k_is)
    (case z7 => k_is)
    (case z8 => k_is)
    (case z9 => k_is)
    (case z10 => k_is)
    (case z11 => k_is)
    (case z12 => k_is)
    (case x1 => k_is)
    (case x2 => k_is)
    (case x3 => k_is)
    (case x4 => k_is)
    (case x5 => k_is)
    (case x6 => k_is)
    (case x7 => k_is)
    (case x8 => k_is)
    (case x9 => k_is)
    (case x10 => k_is)
    (case x11 => k_is)
    (case x12 => k_is)
    (case x13 => k_is)
    (case x14 => k_is)
    (case x15 => k_is)
    (case x16 => k_is)
    (case x17 => k_is)
    (case x18 => k_is)
    (case x19 => k_is)
    (case x20 => k_is)
    (case x21 => k_is)
    (case x22 => k_is)
    (case x23 => k_is)
    (case x24 => k_is)
    (case x25 => k_is)
    (case x26 => k_is)
    (case x27 => k_is)
    (case x28 => k_is)
    (case x29 => k_is)
    (case x30 => k_is)
    (case x31 => k_is)
    (case x32 => k_is)
    (case x33 => k_is)
    (case x34 => k_is)
    (case x35 => k_is)
    (case x36 => k_is)
    (case x37 => k_is)
    (case x38 => k_is)
    (case x39 => k_is)
    (case x40 => k_is)
    (case x41 => k_is)
    (case x42 => k_is)
    (case x43 => k_is)
    (case x44 => k_is)
    (case x45 => k_is)
    (case x46 => k_is)
    (case x47 => kernel_rfl)
    (case x48 => kernel_rfl)
    (case x49 => k_is)
    (case x50 => rfl)
    (case x51 => kernel_rfl)
    (case x52 => kernel_rfl)
    (case x53 => k_is)
    (case x54 => rfl)
    (case x55 => kernel_rfl)
    (case x56 => kernel_rfl)
    (case x57 => decide)
#print axioms PySem.Challenge.cw_partfirsts_k60_texts_of_readers_refused_holds
