import PyProof.Rows.All
import Wide.All
import OpenK.AllK
import Wide.FinOn
import PyProof.EqAt
import PyProof.EqKinds
import PyProof.TupleCall
import HandS.ForMost
import HandS.Property
import HandS.Star
import HandS.IsInst
import HandS.Zip
import HandS.SlotsOwn
import HandS.ClsMeth
import KE.GoesMore
import HandS.TupAny
import HandS.TupMul
import KE.KDictZip
import HandS.Style
import PySem.Challenge.RW_leastreads_k01_sums_calculated
import KE.RegKIsAll
set_option Elab.async false
set_option linter.all false
set_option maxRecDepth 100000
/-! Readings over pure data: values without addresses; changeable objects by number. -/
namespace Pd
open PySem PySem.Spec PyProof.Rows L2

/-- data; mut k is the k-th changeable object; ob a an object of the text (a class, a def) -/
inductive D where
  | non | bl (b : Bool) | int (i : Int) | str (x : Str) | lst (ds : List D) | tup (ds : List D) | ins (C : Addr) (fs : List (Str × D)) | mu (k : Nat) | ob (a : Addr)
  | ty (n : String)
/-- what a changeable object holds -/
inductive MO where
  | lst (ds : List D) | ins (C : Addr) (fs : List (Str × D))
abbrev Ms := List MO
abbrev Rho := List (Option D)

section
variable (K : PySem.W.Frag) (as : List Addr) (H : Hp)
mutual
inductive Rp : V → D → Prop
  | non : Rp .non .non
  | bl (b : Bool) : Rp (.bl b) (.bl b)
  | int (i : Int) : Rp (.int i) (.int i)
  | str (x : Str) : Rp (.str x) (.str x)
  | lst {a : Addr} {xs : List V} {ds : List D} : SqL K H a xs → RpA xs ds → Rp (.ref a) (.lst ds)
  | tup {a : Addr} {xs : List V} {ds : List D} : SqT K H a xs → RpA xs ds → Rp (.ref a) (.tup ds)
  | ins {a C dx : Addr} {fs : List (Str × V)} {gs : List (Str × D)} : H a = some (.ins C dx fs) → RpF fs gs → Rp (.ref a) (.ins C gs)
  | mu {a : Addr} {k : Nat} : as[k]? = some a → Rp (.ref a) (.mu k)
  | ob (a : Addr) : Rp (.ref a) (.ob a)
  | ty (n : String) : Rp (.ty n) (.ty n)
inductive RpA : List V → List D → Prop
  | nil : RpA [] []
  | cons {v : V} {vs : List V} {d : D} {ds : List D} : Rp v d → RpA vs ds → RpA (v :: vs) (d :: ds)
inductive RpF : List (Str × V) → List (Str × D) → Prop
  | nil : RpF [] []
  | cons {f : Str} {v : V} {fs : List (Str × V)} {d : D} {gs : List (Str × D)} : Rp v d → RpF fs gs → RpF ((f, v) :: fs) ((f, d) :: gs)
end
end

/-- all that is known stays -/
def Ex (H H' : Hp) : Prop := ∀ a o, H a = some o → H' a = some o
theorem Ex.refl (H : Hp) : Ex H H := fun _ _ h => h
theorem Ex.trans {H H1 H2 : Hp} (a : Ex H H1) (b : Ex H1 H2) : Ex H H2 := fun x o h => b x o (a x o h)
theorem Ex.new {H : Hp} {p : Addr} {o : HO} (h : H p = none) : Ex H (upd H p o) := fun a u e => by
  rw [upd_ne (ne_of_none e h)]
  exact e
theorem ex_rd {H H' : Hp} {a : Addr} {u : HO} (e : Ex H H') (h : Rd H a u) : Rd H' a u := by
  rcases h with h | ⟨o, h⟩
  · exact Or.inl (e a _ h)
  · exact Or.inr ⟨o, e a _ h⟩
theorem ex_l {K : PySem.W.Frag} {H H' : Hp} {a : Addr} {xs : List V} (e : Ex H H') (h : SqL K H a xs) : SqL K H' a xs := by
  rcases h with h | h
  · exact Or.inl (ex_rd e h)
  · exact Or.inr h
theorem ex_t {K : PySem.W.Frag} {H H' : Hp} {a : Addr} {xs : List V} (e : Ex H H') (h : SqT K H a xs) : SqT K H' a xs := by
  rcases h with h | h
  · exact Or.inl (ex_rd e h)
  · exact Or.inr h

section
variable {K : PySem.W.Frag} {as bs : List Addr} {H H' : Hp}
/-- more changeable objects stand behind -/
def Pre (as bs : List Addr) : Prop := ∀ (k : Nat) (a : Addr), as[k]? = some a → bs[k]? = some a
theorem Pre.refl (as : List Addr) : Pre as as := fun _ _ h => h
theorem Pre.trans {as bs cs : List Addr} (a : Pre as bs) (b : Pre bs cs) : Pre as cs := fun k x h => b k x (a k x h)
mutual
theorem Rp.mono (e : Ex H H') (p : Pre as bs) : ∀ {v : V} {d : D}, Rp K as H v d → Rp K bs H' v d
  | _, _, .non => .non
  | _, _, .bl b => .bl b
  | _, _, .int i => .int i
  | _, _, .str x => .str x
  | _, _, .lst h r => .lst (ex_l e h) (RpA.mono e p r)
  | _, _, .tup h r => .tup (ex_t e h) (RpA.mono e p r)
  | _, _, .ins h r => .ins (e _ _ h) (RpF.mono e p r)
  | _, _, .mu h => .mu (p _ _ h)
  | _, _, .ob a => .ob a
  | _, _, .ty n => .ty n
theorem RpA.mono (e : Ex H H') (p : Pre as bs) : ∀ {vs : List V} {ds : List D}, RpA K as H vs ds → RpA K bs H' vs ds
  | _, _, .nil => .nil
  | _, _, .cons r t => .cons (Rp.mono e p r) (RpA.mono e p t)
theorem RpF.mono (e : Ex H H') (p : Pre as bs) : ∀ {fs : List (Str × V)} {gs : List (Str × D)}, RpF K as H fs gs → RpF K bs H' fs gs
  | _, _, .nil => .nil
  | _, _, .cons r t => .cons (Rp.mono e p r) (RpF.mono e p t)
end
theorem RpA.length : ∀ {vs : List V} {ds : List D}, RpA K as H vs ds → vs.length = ds.length
  | _, _, .nil => rfl
  | _, _, .cons _ t => congrArg (· + 1) t.length
theorem RpA.get : ∀ {vs : List V} {ds : List D} {i : Nat} {d : D}, RpA K as H vs ds → ds[i]? = some d → ∃ v, vs[i]? = some v ∧ Rp K as H v d
  | _, _, _, _, .nil, e => by simp at e
  | _, _, 0, _, .cons r _, e => by simp at e; subst e; exact ⟨_, rfl, r⟩
  | _, _, i + 1, d, .cons _ t, e => by
    obtain ⟨v, h1, h2⟩ := RpA.get (i := i) (d := d) t (by simpa using e)
    exact ⟨v, by simpa using h1, h2⟩
theorem RpA.getV : ∀ {vs : List V} {ds : List D} {i : Nat} {v : V}, RpA K as H vs ds → vs[i]? = some v → ∃ d, ds[i]? = some d ∧ Rp K as H v d
  | _, _, _, _, .nil, e => by simp at e
  | _, _, 0, _, .cons r _, e => by simp at e; subst e; exact ⟨_, rfl, r⟩
  | _, _, i + 1, d, .cons _ t, e => by
    obtain ⟨v, h1, h2⟩ := RpA.getV (i := i) (v := d) t (by simpa using e)
    exact ⟨v, by simpa using h1, h2⟩
theorem RpA.append : ∀ {vs ws : List V} {ds es : List D}, RpA K as H vs ds → RpA K as H ws es → RpA K as H (vs ++ ws) (ds ++ es)
  | _, _, _, _, .nil, s => s
  | _, _, _, _, .cons r t, s => .cons r (RpA.append t s)
theorem RpA.one {v : V} {d : D} (r : Rp K as H v d) : RpA K as H [v] [d] := .cons r .nil
theorem RpF.look : ∀ {fs : List (Str × V)} {gs : List (Str × D)} {f : Str} {d : D}, RpF K as H fs gs → gs.lookup f = some d → ∃ v, fs.lookup f = some v ∧ Rp K as H v d
  | _, _, _, _, .nil, e => by simp at e
  | (g, v) :: fs, _, f, d, .cons (gs := gs) (d := dd) r t, e => by
    rw [List.lookup_cons] at e ⊢
    cases q : f == g with
    | true => rw [q] at e; cases e; exact ⟨_, rfl, r⟩
    | false => rw [q] at e; exact RpF.look t e
theorem RpF.lookN : ∀ {fs : List (Str × V)} {gs : List (Str × D)} {f : Str}, RpF K as H fs gs → gs.lookup f = none → fs.lookup f = none
  | _, _, _, .nil, e => rfl
  | (g, v) :: fs, _, f, .cons (gs := gs) (d := dd) r t, e => by
    rw [List.lookup_cons] at e ⊢
    cases q : f == g with
    | true => rw [q] at e; cases e
    | false => rw [q] at e; exact RpF.lookN t e
theorem RpF.length : ∀ {fs : List (Str × V)} {gs : List (Str × D)}, RpF K as H fs gs → fs.length = gs.length
  | _, _, .nil => rfl
  | _, _, .cons _ t => congrArg (· + 1) t.length
end

/-- the object at o holds m -/
inductive Ro (K : PySem.W.Frag) (as : List Addr) (H : Hp) : HO → MO → Prop
  | lst {xs : List V} {ds : List D} : RpA K as H xs ds → Ro K as H (.lst xs) (.lst ds)
  | ins {C dx : Addr} {fs : List (Str × V)} {gs : List (Str × D)} : RpF K as H fs gs → Ro K as H (.ins C dx fs) (.ins C gs)
theorem Ro.mono {K : PySem.W.Frag} {as bs : List Addr} {H H' : Hp} {o : HO} {m : MO} (e : Ex H H') (p : Pre as bs) (r : Ro K as H o m) : Ro K bs H' o m := by
  cases r with
  | lst r => exact .lst (r.mono e p)
  | ins r => exact .ins (r.mono e p)

/-- L: what is known for good; H: the heap; as: where the changeable objects stand, M: what they hold -/
structure At (K : PySem.W.Frag) (as : List Addr) (M : Ms) (L H : Hp) : Prop where
  low : Ex L H
  len : as.length = M.length
  nd : as.Nodup
  mo : ∀ (k : Nat) (a : Addr) (m : MO), as[k]? = some a → M[k]? = some m → L a = none ∧ ∃ o, H a = some o ∧ Ro K as L o m
theorem At.held {K : PySem.W.Frag} {as : List Addr} {M : Ms} {L H : Hp} (A : At K as M L H) {a : Addr} (h : a ∈ as) : L a = none ∧ H a ≠ none := by
  obtain ⟨k, hk, e⟩ := List.getElem_of_mem h
  have e1 : as[k]? = some a := by rw [List.getElem?_eq_getElem hk, e]
  have hm : k < M.length := by rw [← A.len]; exact hk
  obtain ⟨h1, o, h2, _⟩ := A.mo k a _ e1 (List.getElem?_eq_getElem hm)
  exact ⟨h1, by rw [h2]; simp⟩

/-- a step: known things stay, hidden things stay hidden; bs: the changeable objects behind it -/
structure Step (as : List Addr) (L H : Hp) (bs : List Addr) (L' H' : Hp) : Prop where
  up : ∀ a o, a ∉ as → H a = some o → H' a = some o
  k : Ex L L'
  hid : ∀ a, L a = none → H a ≠ none → L' a = none
  pre : Pre as bs
  new : ∀ a ∈ bs, a ∈ as ∨ H a = none
theorem Step.refl {as : List Addr} {L H : Hp} : Step as L H as L H := ⟨fun _ _ _ h => h, Ex.refl _, fun _ h _ => h, Pre.refl _, fun _ h => .inl h⟩
theorem Step.trans {K : PySem.W.Frag} {as bs cs : List Addr} {M1 : Ms} {L H L1 H1 L2 H2 : Hp} (s : Step as L H bs L1 H1) (A1 : At K bs M1 L1 H1) (t : Step bs L1 H1 cs L2 H2) : Step as L H cs L2 H2 := by
  have there : ∀ a, H a ≠ none → H1 a ≠ none := fun a h => by
    by_cases ha : a ∈ as
    · obtain ⟨k, hk, e⟩ := List.getElem_of_mem ha
      have e1 : as[k]? = some a := by rw [List.getElem?_eq_getElem hk, e]
      have e2 := s.pre k a e1
      exact (A1.held (List.mem_of_getElem? e2)).2
    · cases q : H a with
      | none => exact absurd q h
      | some o => rw [s.up a o ha q]; simp
  refine ⟨fun a o ha h => ?_, s.k.trans t.k, fun a h h' => t.hid a (s.hid a h h') (there a h'), s.pre.trans t.pre, fun a ha => ?_⟩
  · have h1 := s.up a o ha h
    refine t.up a o (fun hb => ?_) h1
    rcases s.new a hb with z | z
    · exact ha z
    · rw [h] at z; cases z
  · rcases t.new a ha with z | z
    · exact s.new a z
    · right
      cases q : H a with
      | none => rfl
      | some o => exact absurd z (there a (by rw [q]; simp))
theorem Step.sub {as bs : List Addr} {L H L1 H1 : Hp} (s : Step as L H bs L1 H1) : Step as L H as L1 H1 := ⟨s.up, s.k, s.hid, Pre.refl _, fun _ h => .inl h⟩

/-- a new thing that is known for good -/
theorem At.know {K : PySem.W.Frag} {as : List Addr} {M : Ms} {L H : Hp} {p : Addr} {o : HO} (A : At K as M L H) (hp : H p = none) : At K as M (upd L p o) (upd H p o) := by
  refine ⟨fun a u h => ?_, A.len, A.nd, fun k a m h1 h2 => ?_⟩
  · by_cases e : a = p
    · subst e; rw [upd_same] at h ⊢; exact h
    · rw [upd_ne e] at h ⊢; exact A.low a u h
  · obtain ⟨h3, o', h4, h5⟩ := A.mo k a m h1 h2
    have e : a ≠ p := ne_of_none h4 hp
    have lp : L p = none := by
      cases q : L p with
      | none => rfl
      | some u => rw [A.low p u q] at hp; cases hp
    exact ⟨by rw [upd_ne e]; exact h3, o', by rw [upd_ne e]; exact h4, h5.mono (Ex.new lp) (Pre.refl _)⟩
theorem Step.know {K : PySem.W.Frag} {as : List Addr} {M : Ms} {L H : Hp} {p : Addr} {o : HO} (A : At K as M L H) (hp : H p = none) : Step as L H as (upd L p o) (upd H p o) := by
  have lp : L p = none := by
    cases q : L p with
    | none => rfl
    | some u => rw [A.low p u q] at hp; cases hp
  refine ⟨fun a u _ h => ?_, Ex.new lp, fun a h h' => ?_, Pre.refl _, fun _ h => .inl h⟩
  · rw [upd_ne (ne_of_none h hp)]; exact h
  · have e : a ≠ p := fun z => h' (by rw [z]; exact hp)
    rw [upd_ne e]; exact h

/-- the slots -/
structure En (K : PySem.W.Frag) (as : List Addr) (L : Hp) (σ : L2.St) (ρ : Rho) : Prop where
  len : σ.length = ρ.length
  at_ : ∀ (i : Nat) (d : D), ρ[i]? = some (some d) → ∃ v, σ[i]? = some (some v) ∧ Rp K as L v d
theorem En.mono {K : PySem.W.Frag} {as bs : List Addr} {L L' : Hp} {σ : L2.St} {ρ : Rho} (e : Ex L L') (p : Pre as bs) (h : En K as L σ ρ) : En K bs L' σ ρ :=
  ⟨h.len, fun i d q => let ⟨v, h1, h2⟩ := h.at_ i d q; ⟨v, h1, h2.mono e p⟩⟩
theorem En.set {K : PySem.W.Frag} {as : List Addr} {L : Hp} {σ : L2.St} {ρ : Rho} {v : V} {d : D} (i : Nat) (h : En K as L σ ρ) (r : Rp K as L v d) : En K as L (σ.set i (some v)) (ρ.set i (some d)) := by
  refine ⟨by rw [List.length_set, List.length_set]; exact h.len, fun j e q => ?_⟩
  rw [List.getElem?_set] at q ⊢
  by_cases hj : i = j
  · subst hj
    rw [if_pos rfl] at q ⊢
    rw [h.len]
    split at q
    · rename_i hl
      rw [if_pos hl]
      cases q
      exact ⟨v, rfl, r⟩
    · cases q
  · rw [if_neg hj] at q ⊢
    exact h.at_ j e q

/-! ### readings over data -/
abbrev DE := Rho → Ms → (D → Ms → Prop) → Prop
abbrev DT := Rho → Ms → (Bool → Ms → Prop) → Prop
abbrev DA := Rho → Ms → (List D → Ms → Prop) → Prop
def SimE (K : PySem.W.Frag) (te : TE) (t : DE) : Prop := ∀ as σ ρ L H M P Q, En K as L σ ρ → At K as M L H → t ρ M P →
  (∀ v d L' H' M', Step as L H as L' H' → At K as M' L' H' → P d M' → Rp K as L' v d → Q v H') → te σ H Q
def SimT (K : PySem.W.Frag) (te : TT) (t : DT) : Prop := ∀ as σ ρ L H M P Q, En K as L σ ρ → At K as M L H → t ρ M P →
  (∀ b L' H' M', Step as L H as L' H' → At K as M' L' H' → P b M' → Q b H') → te σ H Q
def SimA (K : PySem.W.Frag) (te : TA) (t : DA) : Prop := ∀ as σ ρ L H M P Q, En K as L σ ρ → At K as M L H → t ρ M P →
  (∀ vs ds L' H' M', Step as L H as L' H' → At K as M' L' H' → P ds M' → RpA K as L' vs ds → Q vs H') → te σ H Q
structure PD (X : Cx) (e : Expr) (t : DE) : Prop where
  ex : ∃ te, PE X e te ∧ SimE X.K te t
structure PDT (X : Cx) (e : Expr) (t : DT) : Prop where
  ex : ∃ te, PT X e te ∧ SimT X.K te t
structure PDW (X : Cx) (e : Expr) (t : DT) : Prop where
  ex : ∃ te, PW X e te ∧ SimT X.K te t
structure PDA (X : Cx) (es : List Expr) (t : DA) : Prop where
  ex : ∃ te, PA X es te ∧ SimA X.K te t

section
variable {X : Cx} {a b c e : Expr} {es : List Expr} {ta tb tc : DE} {pos : Pos}
def dVar (i : Nat) : DE := fun ρ M P => ∃ d, ρ[i]? = some (some d) ∧ P d M
theorem pd_name (i : Nat) {x : Str} (hN : X.N[i]? = some x := by rfl) (hv : Vis X.env.scope x := by first | exact Or.inl rfl | exact Or.inr (Or.inl rfl) | exact Or.inr (Or.inr rfl)) (hd : (x == ("__debug__" : Str)) = false := by decide)
    (hcd : (x == ("__classdict__" : Str)) = false := by decide) : PD X (.Name x pos) (dVar i) :=
  ⟨_, pv i hN hv hd hcd, fun as σ ρ L H M P Q hE A ⟨d, hd, p⟩ q => by
    obtain ⟨v, h1, h2⟩ := hE.at_ i d hd
    exact ⟨v, h1, q v d L H M .refl A p h2⟩⟩
def dC (d : D) : DE := fun _ M P => P d M
theorem pd_int {i j} : PD X (.Constant (.int i) j pos) (dC (.int i)) := ⟨_, pe_int, fun as σ ρ L H M P Q hE A p q => q _ _ L H M .refl A p (.int i)⟩
theorem pd_bl {b j} : PD X (.Constant (.bool b) j pos) (dC (.bl b)) := ⟨_, pe_bl, fun as σ ρ L H M P Q hE A p q => q _ _ L H M .refl A p (.bl b)⟩
theorem pd_non {j} : PD X (.Constant .none j pos) (dC .non) := ⟨_, pe_non, fun as σ ρ L H M P Q hE A p q => q _ _ L H M .refl A p .non⟩
theorem pd_str {x j} : PD X (.Constant (.str x) j pos) (dC (.str x)) := ⟨_, pe_str, fun as σ ρ L H M P Q hE A p q => q _ _ L H M .refl A p (.str x)⟩

/-! two-place operations -/
abbrev D2 := D → D → Ms → (D → Ms → Prop) → Prop
abbrev D1 := D → Ms → (D → Ms → Prop) → Prop
abbrev DC := List D → Ms → (D → Ms → Prop) → Prop
def SimR (K : PySem.W.Frag) (r : R2) (o : D2) : Prop := ∀ as L H M x y d e P Q, At K as M L H → Rp K as L x d → Rp K as L y e → o d e M P →
  (∀ v z L' H' M', Step as L H as L' H' → At K as M' L' H' → P z M' → Rp K as L' v z → Q v H') → r x y H Q
def SimU (K : PySem.W.Frag) (r : V → Hp → VK → Prop) (o : D1) : Prop := ∀ as L H M x d P Q, At K as M L H → Rp K as L x d → o d M P →
  (∀ v z L' H' M', Step as L H as L' H' → At K as M' L' H' → P z M' → Rp K as L' v z → Q v H') → r x H Q
def SimC (K : PySem.W.Frag) (r : List V → Hp → VK → Prop) (o : DC) : Prop := ∀ as L H M xs ds P Q, At K as M L H → RpA K as L xs ds → o ds M P →
  (∀ v z L' H' M', Step as L H as L' H' → At K as M' L' H' → P z M' → Rp K as L' v z → Q v H') → r xs H Q
def d2 (o : D2) (ta tb : DE) : DE := fun ρ M P => ta ρ M fun x M1 => tb ρ M1 fun y M2 => o x y M2 P
def d1 (o : D1) (ta : DE) : DE := fun ρ M P => ta ρ M fun x M1 => o x M1 P
theorem sim_op {K : PySem.W.Frag} {r : R2} {o : D2} {ua ub : TE} (hr : SimR K r o) (ha : SimE K ua ta) (hb : SimE K ub tb) : SimE K (tOp r ua ub) (d2 o ta tb) := by
  intro as σ ρ L H M P Q hE A h q
  refine ha as σ ρ L H M _ _ hE A h fun x d L1 H1 M1 s1 A1 h1 r1 => ?_
  refine hb as σ ρ L1 H1 M1 _ _ (hE.mono s1.k s1.pre) A1 h1 fun y e L2 H2 M2 s2 A2 h2 r2 => ?_
  refine hr as L2 H2 M2 x y d e P Q A2 (r1.mono s2.k s2.pre) r2 h2 fun v z L3 H3 M3 s3 A3 h3 r3 => ?_
  exact q v z L3 H3 M3 (s1.trans A1 (s2.trans A2 s3)) A3 h3 r3
theorem sim_un {K : PySem.W.Frag} {r : V → Hp → VK → Prop} {o : D1} {ua : TE} (hr : SimU K r o) (ha : SimE K ua ta) : SimE K (tUn r ua) (d1 o ta) := by
  intro as σ ρ L H M P Q hE A h q
  refine ha as σ ρ L H M _ _ hE A h fun x d L1 H1 M1 s1 A1 h1 r1 => ?_
  refine hr as L1 H1 M1 x d P Q A1 r1 h1 fun v z L3 H3 M3 s3 A3 h3 r3 => ?_
  exact q v z L3 H3 M3 (s1.trans A1 s3) A3 h3 r3
theorem pd_op {op : Operator} {r : R2} {o : D2} (ho : OpR X (binaryOp op) r) (hr : SimR X.K r o) (ha : PD X a ta) (hb : PD X b tb) : PD X (.BinOp a op b pos) (d2 o ta tb) := by
  obtain ⟨ua, pa, sa⟩ := ha.ex
  obtain ⟨ub, pb, sb⟩ := hb.ex
  exact ⟨_, pe_op ho pa pb, sim_op hr sa sb⟩
theorem pd_un {op : UnaryOp} {r : V → Hp → VK → Prop} {o : D1} (ho : UnR X (unaryOp op) r) (hr : SimU X.K r o) (ha : PD X a ta) : PD X (.UnaryOp op a pos) (d1 o ta) := by
  obtain ⟨ua, pa, sa⟩ := ha.ex
  exact ⟨_, pe_un ho pa, sim_un hr sa⟩
theorem pd_cmp {op : CmpOp} {r : R2} {o : D2} (ho : OpR X (compareOp op) r) (hr : SimR X.K r o) (ha : PD X a ta) (hb : PD X b tb) (hm : behindInMarks op b = false) : PD X (.Compare a [op] [b] pos) (d2 o ta tb) := by
  obtain ⟨ua, pa, sa⟩ := ha.ex
  obtain ⟨ub, pb, sb⟩ := hb.ex
  exact ⟨_, pe_cmpR ho pa pb hm, sim_op hr sa sb⟩
/-- as a test -/
def dTest (t : DE) : DT := fun ρ M P => t ρ M fun x M1 => ∃ k, x = .bl k ∧ P k M1
theorem sim_test {K : PySem.W.Frag} {u : TE} {t : DE} (h : SimE K u t) : SimT K (tTest u) (dTest t) := by
  intro as σ ρ L H M P Q hE A h1 q
  refine h as σ ρ L H M _ _ hE A h1 fun x d L1 H1 M1 s1 A1 h2 r1 => ?_
  obtain ⟨k, rfl, p⟩ := h2
  cases r1
  exact ⟨k, rfl, q k L1 H1 M1 s1 A1 p⟩
theorem pdt_cmp {op : CmpOp} {r : R2} {o : D2} (ho : OpR X (compareOp op) r) (hr : SimR X.K r o) (ha : PD X a ta) (hb : PD X b tb) (hm : behindInMarks op b = false) : PDT X (.Compare a [op] [b] pos) (dTest (d2 o ta tb)) := by
  obtain ⟨ua, pa, sa⟩ := ha.ex
  obtain ⟨ub, pb, sb⟩ := hb.ex
  exact ⟨_, pt_cmpR ho pa pb hm, sim_test (sim_op hr sa sb)⟩
theorem pdt_val {t : DE} (h : PD X e t) (he : ∀ whole, isTrue e X.env whole = (do let v ← whole; standAt e.pos; holding [v] (truthy v)) := by intro _; rfl) : PDT X e (dTest t) := by
  obtain ⟨u, p, s⟩ := h.ex
  exact ⟨_, pt_val p he, sim_test s⟩
/-- a < b < c -/
def dChain (o o' : D2) (ta tb tc : DE) : DE := fun ρ M P => ta ρ M fun x M1 => tb ρ M1 fun y M2 => o x y M2 fun z M3 => ∃ k, z = .bl k ∧ if k = true then tc ρ M3 fun w M4 => o' y w M4 P else P (.bl false) M3
end
end Pd

set_option Elab.async false
set_option linter.all false
set_option maxRecDepth 100000
namespace Pd
open PySem PySem.Spec PyProof.Rows L2

section
variable {X : Cx} {a b c e : Expr} {es : List Expr} {ta tb tc t : DE} {tA tB' : DT} {tl : DA} {pos : Pos}
theorem pd_chain {op op' : CmpOp} {r r' : R2} {o o' : D2} (ho : OpR X (compareOp op) r) (hr : SimR X.K r o) (ho' : OpR X (compareOp op') r') (hr' : SimR X.K r' o') (ha : PD X a ta) (hb : PD X b tb) (hc : PD X c tc)
    (hm : lastMarks [op, op'] [b, c] = false := by with_unfolding_all rfl) : PD X (.Compare a [op, op'] [b, c] pos) (dChain o o' ta tb tc) := by
  obtain ⟨ua, pa, sa⟩ := ha.ex
  obtain ⟨ub, pb, sb⟩ := hb.ex
  obtain ⟨uc, pc, sc⟩ := hc.ex
  refine ⟨_, pe_chain ho ho' pa pb pc hm, ?_⟩
  intro as σ ρ L H M P Q hE A h q
  refine sa as σ ρ L H M _ _ hE A h fun x d L1 H1 M1 s1 A1 h1 r1 => ?_
  refine sb as σ ρ L1 H1 M1 _ _ (hE.mono s1.k s1.pre) A1 h1 fun y e L2 H2 M2 s2 A2 h2 r2 => ?_
  refine hr as L2 H2 M2 x y d e _ _ A2 (r1.mono s2.k s2.pre) r2 h2 fun v z L3 H3 M3 s3 A3 h3 r3 => ?_
  obtain ⟨k, rfl, h3⟩ := h3
  cases r3
  have s13 := s1.trans A1 (s2.trans A2 s3)
  refine ⟨k, rfl, ?_⟩
  cases k with
  | false =>
    rw [if_neg Bool.false_ne_true] at h3 ⊢
    exact q _ _ L3 H3 M3 s13 A3 h3 (.bl false)
  | true =>
    rw [if_pos rfl] at h3 ⊢
    refine sc as σ ρ L3 H3 M3 _ _ (hE.mono s13.k s13.pre) A3 h3 fun w' f L4 H4 M4 s4 A4 h4 r4 => ?_
    refine hr' as L4 H4 M4 y w' e f P Q A4 (r2.mono (s3.k.trans s4.k) (s3.pre.trans s4.pre)) r4 h4 fun v z L5 H5 M5 s5 A5 h5 r5 => ?_
    exact q v z L5 H5 M5 (s13.trans A3 (s4.trans A4 s5)) A5 h5 r5

/-! ### and, or, not, if -/
def dAnd (t u : DT) : DT := fun ρ M P => t ρ M fun c M1 => if c = true then u ρ M1 P else P false M1
def dOr (t u : DT) : DT := fun ρ M P => t ρ M fun c M1 => if c = true then P true M1 else u ρ M1 P
def dNot (t : DT) : DT := fun ρ M P => t ρ M fun c M1 => P (!c) M1
theorem pdw_and1 (ha : PDT X a tA) : PDW X (.BoolOp .And [a] pos) tA := by
  obtain ⟨u, p, s⟩ := ha.ex
  exact ⟨u, pw_and1 p, s⟩
theorem pdw_or1 (ha : PDT X a tA) : PDW X (.BoolOp .Or [a] pos) tA := by
  obtain ⟨u, p, s⟩ := ha.ex
  exact ⟨u, pw_or1 p, s⟩
theorem pdw_and {rest : List Expr} (ha : PDT X a tA) (hb : PDW X (.BoolOp .And (b :: rest) pos) tB') : PDW X (.BoolOp .And (a :: b :: rest) pos) (dAnd tA tB') := by
  obtain ⟨u, p, s⟩ := ha.ex
  obtain ⟨u', p', s'⟩ := hb.ex
  refine ⟨_, pw_and p p', ?_⟩
  intro as σ ρ L H M P Q hE A h q
  refine s as σ ρ L H M _ _ hE A h fun k L1 H1 M1 s1 A1 h1 => ?_
  cases k with
  | true =>
    rw [if_pos rfl] at h1 ⊢
    exact s' as σ ρ L1 H1 M1 _ _ (hE.mono s1.k s1.pre) A1 h1 fun b L2 H2 M2 s2 A2 h2 => q b L2 H2 M2 (s1.trans A1 s2) A2 h2
  | false =>
    rw [if_neg Bool.false_ne_true] at h1 ⊢
    exact q false L1 H1 M1 s1 A1 h1
theorem pdw_or {rest : List Expr} (ha : PDT X a tA) (hb : PDW X (.BoolOp .Or (b :: rest) pos) tB') : PDW X (.BoolOp .Or (a :: b :: rest) pos) (dOr tA tB') := by
  obtain ⟨u, p, s⟩ := ha.ex
  obtain ⟨u', p', s'⟩ := hb.ex
  refine ⟨_, pw_or p p', ?_⟩
  intro as σ ρ L H M P Q hE A h q
  refine s as σ ρ L H M _ _ hE A h fun k L1 H1 M1 s1 A1 h1 => ?_
  cases k with
  | true =>
    rw [if_pos rfl] at h1 ⊢
    exact q true L1 H1 M1 s1 A1 h1
  | false =>
    rw [if_neg Bool.false_ne_true] at h1 ⊢
    exact s' as σ ρ L1 H1 M1 _ _ (hE.mono s1.k s1.pre) A1 h1 fun b L2 H2 M2 s2 A2 h2 => q b L2 H2 M2 (s1.trans A1 s2) A2 h2
theorem pdt_w (h : PDW X e tA) : PDT X e tA := by
  obtain ⟨u, p, s⟩ := h.ex
  exact ⟨u, p.pt, s⟩
theorem pdt_not (ha : PDT X a tA) : PDT X (.UnaryOp .Not a pos) (dNot tA) := by
  obtain ⟨u, p, s⟩ := ha.ex
  refine ⟨_, pt_not p, ?_⟩
  intro as σ ρ L H M P Q hE A h q
  exact s as σ ρ L H M _ _ hE A h fun k L1 H1 M1 s1 A1 h1 => q (!k) L1 H1 M1 s1 A1 h1
def dAndV (ta tb : DE) : DE := fun ρ M P => ta ρ M fun x M1 => ∃ c, x = .bl c ∧ if c = true then tb ρ M1 P else P (.bl false) M1
def dOrV (ta tb : DE) : DE := fun ρ M P => ta ρ M fun x M1 => ∃ c, x = .bl c ∧ if c = true then P (.bl true) M1 else tb ρ M1 P
def dNotV (ta : DE) : DE := fun ρ M P => ta ρ M fun x M1 => ∃ c, x = .bl c ∧ P (.bl (!c)) M1
theorem pd_one {op} (h : PD X a t) : PD X (.BoolOp op [a] pos) t := by
  obtain ⟨u, p, s⟩ := h.ex
  exact ⟨u, pe_one p, s⟩
theorem pd_and {rest : List Expr} (ha : PD X a ta) (hb : PD X (.BoolOp .And (b :: rest) pos) tb) : PD X (.BoolOp .And (a :: b :: rest) pos) (dAndV ta tb) := by
  obtain ⟨u, p, s⟩ := ha.ex
  obtain ⟨u', p', s'⟩ := hb.ex
  refine ⟨_, pe_and p p', ?_⟩
  intro as σ ρ L H M P Q hE A h q
  refine s as σ ρ L H M _ _ hE A h fun x d L1 H1 M1 s1 A1 h1 r1 => ?_
  obtain ⟨k, rfl, h1⟩ := h1
  cases r1
  refine ⟨k, rfl, ?_⟩
  cases k with
  | true =>
    rw [if_pos rfl] at h1 ⊢
    exact s' as σ ρ L1 H1 M1 _ _ (hE.mono s1.k s1.pre) A1 h1 fun v z L2 H2 M2 s2 A2 h2 => q v z L2 H2 M2 (s1.trans A1 s2) A2 h2
  | false =>
    rw [if_neg Bool.false_ne_true] at h1 ⊢
    exact q _ _ L1 H1 M1 s1 A1 h1 (.bl false)
theorem pd_or {rest : List Expr} (ha : PD X a ta) (hb : PD X (.BoolOp .Or (b :: rest) pos) tb) : PD X (.BoolOp .Or (a :: b :: rest) pos) (dOrV ta tb) := by
  obtain ⟨u, p, s⟩ := ha.ex
  obtain ⟨u', p', s'⟩ := hb.ex
  refine ⟨_, pe_or p p', ?_⟩
  intro as σ ρ L H M P Q hE A h q
  refine s as σ ρ L H M _ _ hE A h fun x d L1 H1 M1 s1 A1 h1 r1 => ?_
  obtain ⟨k, rfl, h1⟩ := h1
  cases r1
  refine ⟨k, rfl, ?_⟩
  cases k with
  | true =>
    rw [if_pos rfl] at h1 ⊢
    exact q _ _ L1 H1 M1 s1 A1 h1 (.bl true)
  | false =>
    rw [if_neg Bool.false_ne_true] at h1 ⊢
    exact s' as σ ρ L1 H1 M1 _ _ (hE.mono s1.k s1.pre) A1 h1 fun v z L2 H2 M2 s2 A2 h2 => q v z L2 H2 M2 (s1.trans A1 s2) A2 h2
theorem pd_not (ha : PD X a ta) : PD X (.UnaryOp .Not a pos) (dNotV ta) := by
  obtain ⟨u, p, s⟩ := ha.ex
  refine ⟨_, pe_not p, ?_⟩
  intro as σ ρ L H M P Q hE A h q
  refine s as σ ρ L H M _ _ hE A h fun x d L1 H1 M1 s1 A1 h1 r1 => ?_
  obtain ⟨k, rfl, h1⟩ := h1
  cases r1
  exact ⟨k, rfl, q _ _ L1 H1 M1 s1 A1 h1 (.bl (!k))⟩
def dIf (t : DT) (ta tb : DE) : DE := fun ρ M P => t ρ M fun c M1 => if c = true then ta ρ M1 P else tb ρ M1 P
theorem pd_ifExp (hc : PDT X c tA) (ha : PD X a ta) (hb : PD X b tb) : PD X (.IfExp c a b pos) (dIf tA ta tb) := by
  obtain ⟨u, p, s⟩ := hc.ex
  obtain ⟨u1, p1, s1⟩ := ha.ex
  obtain ⟨u2, p2, s2⟩ := hb.ex
  refine ⟨_, pe_ifExp p p1 p2, ?_⟩
  intro as σ ρ L H M P Q hE A h q
  refine s as σ ρ L H M _ _ hE A h fun k L1 H1 M1 st A1 h1 => ?_
  cases k with
  | true =>
    rw [if_pos rfl] at h1 ⊢
    exact s1 as σ ρ L1 H1 M1 _ _ (hE.mono st.k st.pre) A1 h1 fun v z L2 H2 M2 s2 A2 h2 => q v z L2 H2 M2 (st.trans A1 s2) A2 h2
  | false =>
    rw [if_neg Bool.false_ne_true] at h1 ⊢
    exact s2 as σ ρ L1 H1 M1 _ _ (hE.mono st.k st.pre) A1 h1 fun v z L2 H2 M2 s2 A2 h2 => q v z L2 H2 M2 (st.trans A1 s2) A2 h2

/-! ### arguments, displays -/
def dNil : DA := fun _ M P => P [] M
def dCons (ta : DE) (tl : DA) : DA := fun ρ M P => ta ρ M fun x M1 => tl ρ M1 fun xs M2 => P (x :: xs) M2
theorem pda_nil : PDA X [] dNil := ⟨_, pa_nil, fun as σ ρ L H M P Q hE A h q => q [] [] L H M .refl A h .nil⟩
theorem pda_cons (ha : PD X e ta) (hr : PDA X es tl) (hs : starEach (e :: es) X.env = (false, eval e X.env) :: starEach es X.env := by rfl) : PDA X (e :: es) (dCons ta tl) := by
  obtain ⟨u, p, s⟩ := ha.ex
  obtain ⟨u', p', s'⟩ := hr.ex
  refine ⟨_, pa_cons p p' hs, ?_⟩
  intro as σ ρ L H M P Q hE A h q
  refine s as σ ρ L H M _ _ hE A h fun x d L1 H1 M1 s1 A1 h1 r1 => ?_
  exact s' as σ ρ L1 H1 M1 _ _ (hE.mono s1.k s1.pre) A1 h1 fun vs ds L2 H2 M2 s2 A2 h2 r2 => q _ _ L2 H2 M2 (s1.trans A1 s2) A2 h2 (.cons (r1.mono s2.k s2.pre) r2)
def dTup (tl : DA) : DE := fun ρ M P => tl ρ M fun ds M1 => ds.length ≤ sizeLine ∧ P (.tup ds) M1
def dLst (tl : DA) : DE := fun ρ M P => tl ρ M fun ds M1 => ds.length ≤ sizeLine ∧ P (.lst ds) M1
theorem lowfree {K : PySem.W.Frag} {as : List Addr} {M : Ms} {L H : Hp} {p : Addr} (A : At K as M L H) (hp : H p = none) : L p = none := by
  cases q : L p with
  | none => rfl
  | some u => rw [A.low p u q] at hp; cases hp
theorem pd_tup {x1} (h : PDA X es tl) : PD X (.Tuple es x1 pos) (dTup tl) := by
  obtain ⟨u, p, s⟩ := h.ex
  refine ⟨_, pe_tup p, ?_⟩
  intro as σ ρ L H M P Q hE A h q
  refine s as σ ρ L H M _ _ hE A h fun vs ds L1 H1 M1 s1 A1 h1 r1 => ⟨by rw [r1.length]; exact h1.1, fun p hp => ?_⟩
  exact q _ _ _ _ M1 (s1.trans A1 (Step.know A1 hp)) (A1.know hp) h1.2 (.tup (.inl (.inl upd_same)) (r1.mono (Ex.new (lowfree A1 hp)) (Pre.refl _)))
theorem pd_lst (h : PDA X es tl) : PD X (.List es pos) (dLst tl) := by
  obtain ⟨u, p, s⟩ := h.ex
  refine ⟨_, pe_lst p, ?_⟩
  intro as σ ρ L H M P Q hE A h q
  refine s as σ ρ L H M _ _ hE A h fun vs ds L1 H1 M1 s1 A1 h1 r1 => ⟨by rw [r1.length]; exact h1.1, fun p hp => ?_⟩
  exact q _ _ _ _ M1 (s1.trans A1 (Step.know A1 hp)) (A1.know hp) h1.2 (.lst (.inl (.inl upd_same)) (r1.mono (Ex.new (lowfree A1 hp)) (Pre.refl _)))

/-! ### calls -/
/-- what a def promises, over data -/
def spD (n : Nat) (W : DC) : PySem.W.Frag → Sp := fun K vs H Q _ => vs.length = n ∧ ∃ as M L ds P, RpA K as L vs ds ∧ At K as M L H ∧ W ds M P ∧
  ∀ v d L' H' M', Step as L H as L' H' → At K as M' L' H' → P d M' → Rp K as L' v d → Q v H'
def dCall (n : Nat) (W : DC) (tl : DA) : DE := fun ρ M P => tl ρ M fun ds M1 => ds.length = n ∧ W ds M1 P
theorem sim_call {n : Nat} {W : DC} {u : TA} {K : PySem.W.Frag} {E : XK} (s : SimA K u tl) : SimE K (tCall (spD n W K) [] E u) (dCall n W tl) := by
  intro as σ ρ L H M P Q hE A h q
  refine s as σ ρ L H M _ _ hE A h fun vs ds L1 H1 M1 s1 A1 h1 r1 => ?_
  rw [List.append_nil]
  exact ⟨by rw [r1.length]; exact h1.1, as, M1, L1, ds, P, r1, A1, h1.2, fun v d L2 H2 M2 s2 A2 h2 r2 => q v d L2 H2 M2 (s1.trans A1 s2) A2 h2 r2⟩
theorem pd_call {k : Nat} {f : Addr} {fd : FuncData} {ps : List Str} {n : Nat} {W : DC} {x : Str} {p : Pos} (F : FnOk X.prog X.w X.K X.mg X.base CX0 k f fd ps (spD n W X.K)) (hr : Room k X.A) (hg : Gl X x) (hm : X.mg x = some (.ref f)) (hk : PySem.W.keepIn X.K (.ref f) = true)
    (hb : Binds X.K fd ps []) (ha : PDA X (e :: es) tl) (hdb : (x == ("__debug__" : Str)) = false := by decide) (he : starEach (e :: es) X.env = (false, eval e X.env) :: starEach es X.env := by rfl) (hpl : (backTo pos (starEach es X.env)).any (·.1) = false := by rfl) :
    PD X (.Call (.Name x p) (e :: es) [] pos) (dCall n W tl) := by
  obtain ⟨u, pa, s⟩ := ha.ex
  exact ⟨_, pe_call F hr hg hm hk hb .nil pass0 pa hdb he hpl, sim_call s⟩
def dCB (o : DC) (tl : DA) : DE := fun ρ M P => tl ρ M fun ds M1 => o ds M1 P
theorem sim_cb {r : List V → Hp → VK → Prop} {o : DC} {u : TA} {K : PySem.W.Frag} (hr : SimC K r o) (s : SimA K u tl) : SimE K (tCB r u) (dCB o tl) := by
  intro as σ ρ L H M P Q hE A h q
  refine s as σ ρ L H M _ _ hE A h fun vs ds L1 H1 M1 s1 A1 h1 r1 => ?_
  exact hr as L1 H1 M1 vs ds P Q A1 r1 h1 fun v z L2 H2 M2 s2 A2 h2 r2 => q v z L2 H2 M2 (s1.trans A1 s2) A2 h2 r2
theorem pd_callB {id : String} {r : List V → Hp → VK → Prop} {o : DC} {x : Str} {p : Pos} (hc : CallR X (.builtin id) r) (hs : SimC X.K r o) (hg : Gl X x) (hm : X.mg x = none) (hv : bootBuiltins x = some (.builtin id)) (ha : PDA X (e :: es) tl) (hn : x ≠ "__name__" := by decide)
    (hdb : (x == ("__debug__" : Str)) = false := by decide) (he : starEach (e :: es) X.env = (false, eval e X.env) :: starEach es X.env := by rfl) (hpl : (backTo pos (starEach es X.env)).any (·.1) = false := by rfl) : PD X (.Call (.Name x p) (e :: es) [] pos) (dCB o tl) := by
  obtain ⟨u, pa, s⟩ := ha.ex
  exact ⟨_, pe_callB hc hg hm hv pa hn hdb he hpl, sim_cb hs s⟩
theorem pd_callTy {T : String} {r : List V → Hp → VK → Prop} {o : DC} {x : Str} {p : Pos} (hc : CallR X (.type T) r) (hs : SimC X.K r o) (hg : Gl X x) (hm : X.mg x = none) (hv : bootBuiltins x = some (.type T)) (ha : PDA X (e :: es) tl) (hn : x ≠ "__name__" := by decide)
    (hdb : (x == ("__debug__" : Str)) = false := by decide) (he : starEach (e :: es) X.env = (false, eval e X.env) :: starEach es X.env := by rfl) (hpl : (backTo pos (starEach es X.env)).any (·.1) = false := by rfl) : PD X (.Call (.Name x p) (e :: es) [] pos) (dCB o tl) := by
  obtain ⟨u, pa, s⟩ := ha.ex
  exact ⟨_, pe_callTy hc hg hm hv pa hn hdb he hpl, sim_cb hs s⟩
theorem pd_ix {r : R2} {o : D2} (hi : IxR X r) (hr : SimR X.K r o) (ha : PD X a ta) (hb : PD X b tb) (hs : PlainIx b := by exact fun _ _ => rfl) : PD X (.Subscript a b pos) (d2 o ta tb) := by
  obtain ⟨ua, pa, sa⟩ := ha.ex
  obtain ⟨ub, pb, sb⟩ := hb.ex
  exact ⟨_, pe_ix hi pa pb hs, sim_op hr sa sb⟩

/-! ### statements -/
structure DEnds where
  nx : Rho → Ms → Prop
  rt : D → Ms → Prop
  bk : Rho → Ms → Prop := fun _ _ => False
  ct : Rho → Ms → Prop := fun _ _ => False
abbrev DS := DEnds → Rho → Ms → Prop
def EndN (K : PySem.W.Frag) (as : List Addr) (L H : Hp) (d : Rho → Ms → Prop) (v : L2.St → Hp → Prop) : Prop := ∀ σ' ρ' L' H' M', Step as L H as L' H' → At K as M' L' H' → En K as L' σ' ρ' → d ρ' M' → v σ' H'
structure Comp (K : PySem.W.Frag) (as : List Addr) (L H : Hp) (De : DEnds) (D : Ends) : Prop where
  nx : EndN K as L H De.nx D.nx
  rt : ∀ v d L' H' M', Step as L H as L' H' → At K as M' L' H' → De.rt d M' → Rp K as L' v d → D.rt v H'
  bk : EndN K as L H De.bk D.bk
  ct : EndN K as L H De.ct D.ct
theorem EndN.step {K : PySem.W.Frag} {as : List Addr} {L H L1 H1 : Hp} {M1 : Ms} {d : Rho → Ms → Prop} {v : L2.St → Hp → Prop} (s : Step as L H as L1 H1) (A1 : At K as M1 L1 H1) (h : EndN K as L H d v) : EndN K as L1 H1 d v :=
  fun σ' ρ' L' H' M' s' A' e' q => h σ' ρ' L' H' M' (s.trans A1 s') A' e' q
theorem Comp.step {K : PySem.W.Frag} {as : List Addr} {L H L1 H1 : Hp} {M1 : Ms} {De : DEnds} {D : Ends} (s : Step as L H as L1 H1) (A1 : At K as M1 L1 H1) (h : Comp K as L H De D) : Comp K as L1 H1 De D :=
  ⟨h.nx.step s A1, fun v d L' H' M' s' A' q r => h.rt v d L' H' M' (s.trans A1 s') A' q r, h.bk.step s A1, h.ct.step s A1⟩
def SimS (K : PySem.W.Frag) (ts : TS) (t : DS) : Prop := ∀ as σ ρ L H M De D, En K as L σ ρ → At K as M L H → t De ρ M → Comp K as L H De D → ts D σ H
structure PDS (X : Cx) (st : Stmt) (t : DS) : Prop where
  ex : ∃ ts, PS X st ts ∧ SimS X.K ts t
structure PDSs (X : Cx) (st : List Stmt) (t : DS) : Prop where
  ex : ∃ ts, PSs X st ts ∧ SimS X.K ts t
variable {st : Stmt} {sts : List Stmt} {s1 s2 : DS}
def sNext : DS := fun D ρ M => D.nx ρ M
def sSeq (t u : DS) : DS := fun D ρ M => t { D with nx := fun ρ' M' => u D ρ' M' } ρ M
theorem pdss_nil : PDSs X [] sNext := ⟨_, pss_nil, fun as σ ρ L H M De D hE A h c => c.nx σ ρ L H M .refl A hE h⟩
theorem pdss_cons (h1 : PDS X st s1) (h2 : PDSs X sts s2) : PDSs X (st :: sts) (sSeq s1 s2) := by
  obtain ⟨u, p, s⟩ := h1.ex
  obtain ⟨u', p', s'⟩ := h2.ex
  refine ⟨_, pss_cons p p', ?_⟩
  intro as σ ρ L H M De D hE A h c
  refine s as σ ρ L H M _ _ hE A h ⟨fun σ1 ρ1 L1 H1 M1 st1 A1 e1 q1 => ?_, c.rt, c.bk, c.ct⟩
  exact s' as σ1 ρ1 L1 H1 M1 De D e1 A1 q1 (c.step st1 A1)
theorem pdss_one (h1 : PDS X st s1) : PDSs X [st] s1 := by
  obtain ⟨u, p, s⟩ := h1.ex
  exact ⟨_, pss_one p, s⟩
def sDrop (t : DE) : DS := fun D ρ M => t ρ M fun _ M1 => D.nx ρ M1
theorem pds_expr (he : PD X e t) (hs : swapsWith e none pos.line X.env = pure false := by rfl) : PDS X (.Expr e pos) (sDrop t) := by
  obtain ⟨u, p, s⟩ := he.ex
  exact ⟨_, ps_expr p hs, fun as σ ρ L H M De D hE A h c => s as σ ρ L H M _ _ hE A h fun v d L1 H1 M1 st A1 q _ => c.nx σ ρ L1 H1 M1 st A1 (hE.mono st.k st.pre) q⟩
def sRet (t : DE) : DS := fun D ρ M => t ρ M D.rt
theorem pds_ret (he : PD X e t) : PDS X (.Return (some e) pos) (sRet t) := by
  obtain ⟨u, p, s⟩ := he.ex
  exact ⟨_, ps_ret p, fun as σ ρ L H M De D hE A h c => s as σ ρ L H M _ _ hE A h fun v d L1 H1 M1 st A1 q r => c.rt v d L1 H1 M1 st A1 q r⟩
def sIf (c : DT) (t u : DS) : DS := fun D ρ M => c ρ M fun b M1 => if b = true then t D ρ M1 else u D ρ M1
theorem pds_if {a b : List Stmt} (hc : PDT X c tA) (ha : PDSs X a s1) (hb : PDSs X b s2) : PDS X (.If c a b pos) (sIf tA s1 s2) := by
  obtain ⟨u, p, s⟩ := hc.ex
  obtain ⟨u1, p1, z1⟩ := ha.ex
  obtain ⟨u2, p2, z2⟩ := hb.ex
  refine ⟨_, ps_if p p1 p2, ?_⟩
  intro as σ ρ L H M De D hE A h c
  refine s as σ ρ L H M _ _ hE A h fun k L1 H1 M1 st A1 h1 => ?_
  cases k with
  | true =>
    rw [if_pos rfl] at h1 ⊢
    exact z1 as σ ρ L1 H1 M1 De D (hE.mono st.k st.pre) A1 h1 (c.step st A1)
  | false =>
    rw [if_neg Bool.false_ne_true] at h1 ⊢
    exact z2 as σ ρ L1 H1 M1 De D (hE.mono st.k st.pre) A1 h1 (c.step st A1)
def sNever : DS := fun _ _ _ => False
theorem pds_never : PDS X st sNever := ⟨_, ps_never, fun _ _ _ _ _ _ _ _ _ _ h _ => h.elim⟩
theorem pdss_never : PDSs X sts sNever := ⟨_, pss_never, fun _ _ _ _ _ _ _ _ _ _ h _ => h.elim⟩

/-! ### targets -/
abbrev DG := D → Rho → (Rho → Prop) → Prop
abbrev DGs := List D → Rho → (Rho → Prop) → Prop
/-- ts: the slots that are stored -/
def SimG (K : PySem.W.Frag) (g : TG) (t : DG) (ts : List Nat) : Prop := ∀ as L H v d σ ρ M P Q, En K as L σ ρ → At K as M L H → Rp K as L v d → t d ρ P →
  (∀ σ' ρ', En K as L σ' ρ' → P ρ' → (∀ vs, (∀ i ∈ ts, i ∈ vs) → wipe σ' vs = wipe σ vs) → Q σ' H) → g v σ H Q
def SimGs (K : PySem.W.Frag) (g : TGs) (t : DGs) (ts : List Nat) : Prop := ∀ as L H vs ds σ ρ M P Q, En K as L σ ρ → At K as M L H → RpA K as L vs ds → t ds ρ P →
  (∀ σ' ρ', En K as L σ' ρ' → P ρ' → (∀ vs, (∀ i ∈ ts, i ∈ vs) → wipe σ' vs = wipe σ vs) → Q σ' H) → g vs σ H Q
structure PDG (X : Cx) (tg : Expr) (t : DG) (ts : List Nat) : Prop where
  ex : ∃ g, PG X tg g ∧ SimG X.K g t ts
structure PDGs (X : Cx) (tg : List Expr) (t : DGs) (ts : List Nat) : Prop where
  ex : ∃ g, PGs X tg g ∧ SimGs X.K g t ts
theorem wipe_set {σ : L2.St} {i : Nat} {x : Option V} : ∀ {vs : List Nat}, i ∈ vs → wipe (σ.set i x) vs = wipe σ vs
  | [], h => by simp at h
  | v :: vs, h => by
    unfold wipe
    by_cases hi : i ∈ vs
    · rw [wipe_set hi]
    · have e : i = v := by
        rcases List.mem_cons.mp h with z | z
        · exact z
        · exact absurd z hi
      subst e
      have : ∀ {us : List Nat}, i ∉ us → wipe (σ.set i x) us = (wipe σ us).set i x := by
        intro us
        induction us with
        | nil => intro _; rfl
        | cons u us ih =>
          intro hu
          unfold wipe
          have h1 : i ≠ u := fun z => hu (by rw [z]; exact List.mem_cons_self)
          rw [ih fun z => hu (List.mem_cons_of_mem _ z), List.set_comm _ _ h1]
      rw [this hi, List.set_set]
def gN (i : Nat) : DG := fun d ρ P => P (ρ.set i (some d))
theorem sim_gN {K : PySem.W.Frag} (i : Nat) : SimG K (gName i) (gN i) [i] := fun as L H v d σ ρ M P Q hE A r p q => q _ _ (hE.set i r) p fun vs h => wipe_set (h i List.mem_cons_self)
theorem pdg_name (i : Nat) {x : Str} (hN : X.N.Nodup) (hi : X.N[i]? = some x := by rfl) (hx : Loc X.env.scope x := by first | exact Or.inl rfl | exact Or.inr rfl) (hf : X.fn x = true ∨ X.env.scope.names.lookup x = some .local := by first | exact .inl rfl | exact .inr rfl | assumption) : PDG X (.Name x pos) (gN i) [i] :=
  ⟨_, pg_name hN hi hx hf, sim_gN i⟩
def gNi : DGs := fun ds ρ P => ds = [] ∧ P ρ
def gCo (t : DG) (u : DGs) : DGs := fun ds ρ P => ∃ d r, ds = d :: r ∧ t d ρ fun ρ' => u r ρ' P
theorem pdgs_nil : PDGs X [] gNi [] := ⟨_, pgs_nil, fun as L H vs ds σ ρ M P Q hE A r ⟨e, p⟩ q => by
  subst e
  cases r
  exact ⟨rfl, q σ ρ hE p fun _ _ => rfl⟩⟩
theorem pdgs_cons {t : DG} {u : DGs} {us vs : List Nat} (h1 : PDG X e t us) (h2 : PDGs X es u vs) (hs : (assignEach (e :: es) X.env).map (·.2) = assign e X.env :: (assignEach es X.env).map (·.2) := by rfl) : PDGs X (e :: es) (gCo t u) (us ++ vs) := by
  obtain ⟨g, p, s⟩ := h1.ex
  obtain ⟨g', p', s'⟩ := h2.ex
  refine ⟨_, pgs_cons p p' hs, ?_⟩
  intro as L H ws ds σ ρ M P Q hE A r h q
  obtain ⟨d, rr, rfl, h⟩ := h
  cases r with
  | cons r1 r2 =>
    refine ⟨_, _, rfl, s as L H _ _ σ ρ M _ _ hE A r1 h fun σ1 ρ1 e1 h1 w1 => ?_⟩
    exact s' as L H _ _ σ1 ρ1 M _ _ e1 A r2 h1 fun σ2 ρ2 e2 h2 w2 => q σ2 ρ2 e2 h2 fun vs hv => (w2 vs fun i hi => hv i (List.mem_append_right _ hi)).trans (w1 vs fun i hi => hv i (List.mem_append_left _ hi))
def gTu (n : Nat) (t : DGs) : DG := fun d ρ P => ∃ ds, d = .tup ds ∧ ds.length = n ∧ t ds ρ P
theorem pdg_tup {k : Nat} {t : DGs} {n : Nat} {us : List Nat} (hc : X.calm = true) (h : PDGs X es t us)
    (hn : (assignEach es X.env).length = n := by rfl) (hst : (assignEach es X.env).findIdx? (·.1) = none := by rfl) : PDG X (.Tuple es k pos) (gTu n t) us := by
  obtain ⟨g, p, s⟩ := h.ex
  refine ⟨_, pg_tup hc p hn hst, ?_⟩
  intro as L H v d σ ρ M P Q hE A r h q
  obtain ⟨ds, rfl, hl, h⟩ := h
  cases r with
  | tup hs ra => exact ⟨_, _, rfl, ex_t A.low hs, by rw [ra.length]; exact hl, s as L H _ _ σ ρ M _ _ hE A ra h q⟩
def sAsg (t : DE) (g : DG) : DS := fun D ρ M => t ρ M fun d M1 => g d ρ fun ρ' => D.nx ρ' M1
theorem sim_asg {K : PySem.W.Frag} {u : TE} {g : TG} {t : DE} {dg : DG} {us : List Nat} (s : SimE K u t) (sg : SimG K g dg us) : SimS K (tAsg u g) (sAsg t dg) := by
  intro as σ ρ L H M De D hE A h c
  refine s as σ ρ L H M _ _ hE A h fun v d L1 H1 M1 s1 A1 h1 r1 => ?_
  exact sg as L1 H1 v d σ ρ M1 _ _ (hE.mono s1.k s1.pre) A1 r1 h1 fun σ' ρ' e' p' _ => c.nx σ' ρ' L1 H1 M1 s1 A1 e' p'
theorem pds_set (i : Nat) {x : Str} {p' : Pos} (hN : X.N.Nodup) (he : PD X e t) (hi : X.N[i]? = some x := by rfl) (hx : Loc X.env.scope x := by first | exact Or.inl rfl | exact Or.inr rfl) (hs : swapsWith e (some (.Name x p')) pos.line X.env = pure false := by rfl)
    (hf : X.fn x = true ∨ X.env.scope.names.lookup x = some .local := by first | exact .inl rfl | exact .inr rfl | assumption) : PDS X (.Assign [.Name x p'] e pos) (sAsg t (gN i)) := by
  obtain ⟨u, p, s⟩ := he.ex
  exact ⟨_, ps_set hN hi hx p hs hf, sim_asg s (sim_gN i)⟩
theorem pds_asg {tg : Expr} {g : DG} {us : List Nat} (he : PD X e t) (hg : PDG X tg g us) (hs : swapsWithSole [tg] e pos.line X.env = pure false := by rfl) (hw : swappedStores [tg] e X.env = pure none := by rfl)
    (h1 : (assignEach [tg] X.env).map (·.2) = [assign tg X.env] := by rfl) : PDS X (.Assign [tg] e pos) (sAsg t g) := by
  obtain ⟨u, p, s⟩ := he.ex
  obtain ⟨g', pg, sg⟩ := hg.ex
  exact ⟨_, ps_asg p pg hs hw h1, sim_asg s sg⟩
end

/-! ### what is walked -/
/-- J gives the items ds, one after the other, wherever L is known -/
def Walks (K : PySem.W.Frag) (J : It) (as : List Addr) (L0 : Hp) (ds : List D) : Prop := ∀ L H M, Ex L0 L → At K as M L H →
  (∀ i, i < ds.length → J.go i H ∧ ∀ x H', J.yld i H x H' → ∃ d L', ds[i]? = some d ∧ Step as L H as L' H' ∧ At K as M L' H' ∧ Rp K as L' x d) ∧ J.stop ds.length H
def SimI (K : PySem.W.Frag) (wi : TI) (t : DA) : Prop := ∀ as σ ρ L H M P R, En K as L σ ρ → At K as M L H → t ρ M P →
  (∀ J ds L' H' M', Step as L H as L' H' → At K as M' L' H' → P ds M' → Walks K J as L' ds → R J H') → wi σ H R
structure PDI (X : Cx) (tg iter : Expr) (t : DA) : Prop where
  ex : ∃ wi, PI X tg iter wi ∧ SimI X.K wi t
section
variable {X : Cx} {tg iter e : Expr} {es : List Expr} {t : DE} {tl : DA} {pos : Pos} {K : PySem.W.Frag}
/-- over a list; over a tuple -/
def iLst (t : DE) : DA := fun ρ M P => t ρ M fun d M1 => ∃ ds, d = .lst ds ∧ P ds M1
def iTpl (t : DE) : DA := fun ρ M P => t ρ M fun d M1 => ∃ ds, d = .tup ds ∧ P ds M1
theorem walks_list {as : List Addr} {L0 : Hp} {a : Addr} {xs : List V} {ds : List D} (hs : SqL K L0 a xs) (r : RpA K as L0 xs ds) : Walks K (Itl K a) as L0 ds := by
  intro L H M e A
  have h1 : SqL K H a xs := ex_l (e.trans A.low) hs
  refine ⟨fun i hi => ⟨?_, fun x H' y => ?_⟩, xs, h1, by rw [r.length]; exact Nat.le_refl _⟩
  · have hx : i < xs.length := by rw [r.length]; exact hi
    exact ⟨xs, xs[i], h1, List.getElem?_eq_getElem hx⟩
  · obtain ⟨rfl, hy⟩ := y
    obtain ⟨d, hd, rd⟩ := r.getV (hy xs h1)
    exact ⟨d, L, hd, .refl, A, rd.mono e (Pre.refl _)⟩
theorem walks_tup {as : List Addr} {L0 : Hp} {a : Addr} {xs : List V} {ds : List D} (hs : SqT K L0 a xs) (r : RpA K as L0 xs ds) : Walks K (Itt K a) as L0 ds := by
  intro L H M e A
  have h1 : SqT K H a xs := ex_t (e.trans A.low) hs
  refine ⟨fun i hi => ⟨?_, fun x H' y => ?_⟩, xs, h1, by rw [r.length]; exact Nat.le_refl _⟩
  · have hx : i < xs.length := by rw [r.length]; exact hi
    exact ⟨xs, xs[i], h1, List.getElem?_eq_getElem hx⟩
  · obtain ⟨rfl, hy⟩ := y
    obtain ⟨d, hd, rd⟩ := r.getV (hy xs h1)
    exact ⟨d, L, hd, .refl, A, rd.mono e (Pre.refl _)⟩
theorem pdi_list (h : PD X e t) : PDI X tg e (iLst t) := by
  obtain ⟨u, p, s⟩ := h.ex
  refine ⟨_, pi_list p, ?_⟩
  intro as σ ρ L H M P R hE A h q
  refine s as σ ρ L H M _ _ hE A h fun v d L1 H1 M1 s1 A1 h1 r1 => ?_
  obtain ⟨ds, rfl, h1⟩ := h1
  cases r1 with
  | lst hs ra => exact ⟨_, rfl, ⟨_, ex_l A1.low hs⟩, q _ ds L1 H1 M1 s1 A1 h1 (walks_list hs ra)⟩
theorem pdi_tup (h : PD X e t) : PDI X tg e (iTpl t) := by
  obtain ⟨u, p, s⟩ := h.ex
  refine ⟨_, pi_tup p, ?_⟩
  intro as σ ρ L H M P R hE A h q
  refine s as σ ρ L H M _ _ hE A h fun v d L1 H1 M1 s1 A1 h1 r1 => ?_
  obtain ⟨ds, rfl, h1⟩ := h1
  cases r1 with
  | tup hs ra => exact ⟨_, rfl, ⟨_, ex_t A1.low hs⟩, q _ ds L1 H1 M1 s1 A1 h1 (walks_tup hs ra)⟩
/-- lo, lo + 1, .. -/
def rng (lo : Int) (n : Nat) : List D := (List.range n).map fun i => .int (lo + (i : Nat))
theorem rng_len (lo : Int) (n : Nat) : (rng lo n).length = n := by unfold rng; rw [List.length_map, List.length_range]
theorem walks_range {as : List Addr} {L0 : Hp} (lo : Int) (n : Nat) : Walks K (Itr lo n) as L0 (rng lo n) := by
  intro L H M e A
  rw [rng_len]
  refine ⟨fun i hi => ⟨hi, fun x H' y => ?_⟩, Nat.le_refl _⟩
  obtain ⟨rfl, rfl⟩ := y
  refine ⟨.int (lo + i), L, ?_, .refl, A, .int _⟩
  unfold rng
  rw [List.getElem?_map, List.getElem?_range hi]
  rfl
def iR1 (tl : DA) : DA := fun ρ M P => tl ρ M fun ds M1 => ∃ j : Int, ds = [.int j] ∧ -(2 ^ 62) ≤ j ∧ j < 2 ^ 62 ∧ P (rng 0 j.toNat) M1
theorem pdi_range1 {p : Pos} (hg : Gl X "range") (hm : X.mg "range" = none) (ha : PDA X [e] tl) (hs : starEach [e] X.env = [(false, eval e X.env)] := by rfl) : PDI X tg (.Call (.Name "range" p) [e] [] pos) (iR1 tl) := by
  obtain ⟨u, pa, s⟩ := ha.ex
  refine ⟨_, pi_range1 hg hm pa (hs := hs), ?_⟩
  intro as σ ρ L H M P R hE A h q
  refine s as σ ρ L H M _ _ hE A h fun vs ds L1 H1 M1 s1 A1 h1 r1 => ?_
  obtain ⟨j, rfl, h2, h3, h1⟩ := h1
  cases r1 with
  | cons r2 r3 =>
    cases r2
    cases r3
    exact ⟨j, rfl, h2, h3, q _ _ L1 H1 M1 s1 A1 h1 (walks_range 0 _)⟩
def iR2 (tl : DA) : DA := fun ρ M P => tl ρ M fun ds M1 => ∃ i j : Int, ds = [.int i, .int j] ∧ (-(2 ^ 62) ≤ i ∧ i < 2 ^ 62 ∧ -(2 ^ 62) ≤ j ∧ j < 2 ^ 62) ∧ P (rng i (j - i).toNat) M1
theorem pdi_range2 {e2 : Expr} {p : Pos} (hg : Gl X "range") (hm : X.mg "range" = none) (ha : PDA X [e, e2] tl) (hs : starEach [e, e2] X.env = [(false, eval e X.env), (false, eval e2 X.env)] := by rfl) (hs2 : starEach [e2] X.env = [(false, eval e2 X.env)] := by rfl) : PDI X tg (.Call (.Name "range" p) [e, e2] [] pos) (iR2 tl) := by
  obtain ⟨u, pa, s⟩ := ha.ex
  refine ⟨_, pi_range2 hg hm pa (hs := hs) (hs2 := hs2), ?_⟩
  intro as σ ρ L H M P R hE A h q
  refine s as σ ρ L H M _ _ hE A h fun vs ds L1 H1 M1 s1 A1 h1 r1 => ?_
  obtain ⟨i, j, rfl, h2, h1⟩ := h1
  cases r1 with
  | cons r2 r3 =>
    cases r2
    cases r3 with
    | cons r4 r5 =>
      cases r4
      cases r5
      exact ⟨i, j, rfl, h2, q _ _ L1 H1 M1 s1 A1 h1 (walks_range i _)⟩

/-! ### for -/
def forRun (g : DG) (body : DS) (De : DEnds) : List D → Rho → Ms → Prop
  | [], ρ, M => De.nx ρ M
  | d :: r, ρ, M => g d ρ fun ρ' => body { De with nx := fun ρ2 M2 => forRun g body De r ρ2 M2, ct := fun ρ2 M2 => forRun g body De r ρ2 M2, bk := De.nx } ρ' M
def sFor (it : DA) (g : DG) (body : DS) : DS := fun D ρ M => it ρ M fun ds M1 => forRun g body D ds ρ M1
theorem pds_for {body : List Stmt} {it : DA} {g : DG} {us : List Nat} {tb : DS} (hp : PassesOwn (model X.prog X.w) X.A X.env X.xe) (hc : X.calm = true) (hi : PDI X tg iter it) (hg : PDG X tg g us) (hb : PDSs X body tb)
    (hs : ∀ x, foldedSetIterable iter X.env x = pure x := by intro _; rfl) : PDS X (.For tg iter body [] pos) (sFor it g tb) := by
  obtain ⟨wi, p, s⟩ := hi.ex
  obtain ⟨g', pg, sg⟩ := hg.ex
  obtain ⟨ub, pb, sb⟩ := hb.ex
  refine ⟨_, ps_for hp hc p pg pb hs, ?_⟩
  intro as σ ρ L H M De D hE A h c
  refine s as σ ρ L H M _ _ hE A h fun J ds L1 H1 M1 s1 A1 h1 w1 => ?_
  refine ⟨fun i m σ H => m = ds.length - i ∧ i ≤ ds.length ∧ ∃ ρ L M, Step as L1 H1 as L H ∧ At X.K as M L H ∧ En X.K as L σ ρ ∧ forRun g tb De (ds.drop i) ρ M, ⟨ds.length, by simp, Nat.zero_le _, ρ, L1, M1, .refl, A1, hE.mono s1.k s1.pre, h1⟩, ?_⟩
  rintro i m σ H ⟨rfl, hi, ρ, L, M, st, A, hE, hf⟩
  obtain ⟨wg, ws⟩ := w1 L H M st.k A
  by_cases hlt : i < ds.length
  · obtain ⟨go, wy⟩ := wg i hlt
    rw [List.drop_eq_getElem_cons hlt] at hf
    refine .inr ⟨go, fun σ' H' => ∃ ρ L M, Step as L1 H1 as L H' ∧ At X.K as M L H' ∧ En X.K as L σ' ρ ∧ forRun g tb De (ds.drop (i + 1)) ρ M, fun σ' H' q => ⟨ds.length - (i + 1), by omega, rfl, hlt, q⟩, fun x H' y => ?_⟩
    obtain ⟨d, L', hd, s2, A2, r2⟩ := wy x H' y
    rw [List.getElem?_eq_getElem hlt] at hd
    cases hd
    refine sg as L' H' x _ σ ρ M _ _ (hE.mono s2.k s2.pre) A2 r2 hf fun σ2 ρ2 e2 p2 _ => ?_
    have s12 := st.trans A s2
    have c2 := (c.step s1 A1).step s12 A2
    refine sb as σ2 ρ2 L' H' M _ _ e2 A2 p2 ⟨fun σ3 ρ3 L3 H3 M3 s3 A3 e3 q3 => ⟨ρ3, L3, M3, s12.trans A2 s3, A3, e3, q3⟩, c2.rt, c2.nx, fun σ3 ρ3 L3 H3 M3 s3 A3 e3 q3 => ⟨ρ3, L3, M3, s12.trans A2 s3, A3, e3, q3⟩⟩
  · have e : i = ds.length := by omega
    subst e
    rw [List.drop_length] at hf
    exact .inl ⟨ws, (c.step s1 A1).nx σ ρ L H M st A hE hf⟩
end

/-! ### comprehensions -/
abbrev wipeS := @L2.wipe
theorem wipe_wipe (σ : L2.St) (us : List Nat) : L2.wipe (L2.wipe σ us) us = L2.wipe σ us := by
  have : ∀ (τ : L2.St) (ts : List Nat), (∀ i ∈ ts, i ∈ us) → L2.wipe (L2.wipe τ ts) us = L2.wipe τ us := by
    intro τ ts
    induction ts with
    | nil => intro _; rfl
    | cons t ts ih =>
      intro ht
      show L2.wipe ((L2.wipe τ ts).set t none) us = _
      rw [wipe_set (ht t List.mem_cons_self), ih fun i hi => ht i (List.mem_cons_of_mem _ hi)]
  exact this σ us fun _ h => h
def wipeR (ρ : Rho) : List Nat → Rho
  | [] => ρ
  | v :: vs => (wipeR ρ vs).set v none
theorem En.unset {K : PySem.W.Frag} {as : List Addr} {L : Hp} {σ : L2.St} {ρ : Rho} (i : Nat) (h : En K as L σ ρ) : En K as L (σ.set i none) (ρ.set i none) := by
  refine ⟨by rw [List.length_set, List.length_set]; exact h.len, fun j e q => ?_⟩
  rw [List.getElem?_set] at q ⊢
  by_cases hj : i = j
  · subst hj
    rw [if_pos rfl] at q
    split at q <;> cases q
  · rw [if_neg hj] at q ⊢
    exact h.at_ j e q
theorem En.wipe {K : PySem.W.Frag} {as : List Addr} {L : Hp} {σ : L2.St} {ρ : Rho} (h : En K as L σ ρ) : ∀ vs : List Nat, En K as L (wipeS σ vs) (wipeR ρ vs)
  | [] => h
  | v :: vs => (En.wipe h vs).unset v
structure PDTs (X : Cx) (es : List Expr) (t : DT) : Prop where
  ex : ∃ te, PTs X es te ∧ SimT X.K te t
def dYes : DT := fun _ M P => P true M
def lcRun (g : DG) (tt : DT) (te : DE) (ρ : Rho) (P : D → Ms → Prop) : List D → List D → Ms → Prop
  | [], acc, M => P (.lst acc) M
  | d :: r, acc, M => g d ρ fun ρ' => tt ρ' M fun b M1 => if b = true then te ρ' M1 fun y M2 => acc.length < sizeLine ∧ lcRun g tt te ρ P r (acc ++ [y]) M2 else lcRun g tt te ρ P r acc M1
def dLc (it : DA) (g : DG) (tt : DT) (te : DE) (vs : List Nat) : DE := fun ρ M P => it ρ M fun ds M1 => lcRun g tt te (wipeR ρ vs) P ds [] M1
theorem sim_lc {K : PySem.W.Frag} {wi : TI} {it : DA} {g' : TG} {g : DG} {us : List Nat} {ut : TT} {tt : DT} {ue : TE} {te : DE} {vs : List Nat} (hus : ∀ i ∈ us, i ∈ vs) (s : SimI K wi it) (sg : SimG K g' g us) (st : SimT K ut tt) (se : SimE K ue te) :
    SimE K (tLc wi g' ut ue vs) (dLc it g tt te vs) := by
  intro as σ ρ L H M P Q hE A h q
  refine s as σ ρ L H M _ _ hE A h fun J ds L1 H1 M1 s1 A1 h1 w1 => ?_
  intro D hD
  -- D stays hidden while it grows
  have base : ∀ {L' H' : Hp} {M' : Ms} {acc : List V}, At K as M' L' H' → H' D = some (.lst acc) → L' D = none → D ∉ as → ∀ acc', At K as M' L' (upd H' D (.lst acc')) := by
    intro L' H' M' acc A' hd hl hn acc'
    refine ⟨fun a o h => ?_, A'.len, A'.nd, fun k a m e1 e2 => ?_⟩
    · have e : a ≠ D := fun z => by rw [z, hl] at h; cases h
      rw [upd_ne e]; exact A'.low a o h
    · obtain ⟨h3, o, h4, h5⟩ := A'.mo k a m e1 e2
      have e : a ≠ D := fun z => hn (by rw [← z]; exact List.mem_of_getElem? e1)
      exact ⟨h3, o, by rw [upd_ne e]; exact h4, h5⟩
  have dn : D ∉ as := fun z => (A1.held z).2 hD
  have ld : L1 D = none := lowfree A1 hD
  refine ⟨fun i m H' => m = ds.length - i ∧ i ≤ ds.length ∧ ∃ L' M' xs acc, Step as L1 H1 as L' H' ∧ At K as M' L' H' ∧ H' D = some (.lst xs) ∧ L' D = none ∧ RpA K as L' xs acc ∧ lcRun g tt te (wipeR ρ vs) P (ds.drop i) acc M',
    ⟨ds.length, by simp, Nat.zero_le _, L1, M1, [], [], ⟨fun a o _ h => ?_, Ex.refl _, fun _ h _ => h, Pre.refl _, fun _ h => .inl h⟩, ?_, upd_same, ld, .nil, h1⟩, ?_⟩
  · rw [upd_ne (ne_of_none h hD)]; exact h
  · refine ⟨fun a o h => ?_, A1.len, A1.nd, fun k a m e1 e2 => ?_⟩
    · rw [upd_ne (ne_of_none (A1.low a o h) hD)]; exact A1.low a o h
    · obtain ⟨h3, o, h4, h5⟩ := A1.mo k a m e1 e2
      exact ⟨h3, o, by rw [upd_ne (ne_of_none h4 hD)]; exact h4, h5⟩
  rintro i m H' ⟨rfl, hi, L', M', xs, acc, s', A', hd', ld', ra, hf⟩
  obtain ⟨wg, ws⟩ := w1 L' H' M' s'.k A'
  have upD : ∀ {L2 H2 : Hp} {M2 : Ms}, Step as L1 H1 as L2 H2 → At K as M2 L2 H2 → ∀ acc', Step as L1 H1 as L2 (upd H2 D (.lst acc')) := by
    intro L2 H2 M2 s2 A2 acc'
    exact ⟨fun a o ha h => by rw [upd_ne (ne_of_none h hD)]; exact s2.up a o ha h, s2.k, s2.hid, s2.pre, s2.new⟩
  by_cases hlt : i < ds.length
  · obtain ⟨go, wy⟩ := wg i hlt
    rw [List.drop_eq_getElem_cons hlt] at hf
    refine .inr ⟨go, fun H2 => ∃ L' M' xs acc, Step as L1 H1 as L' H2 ∧ At K as M' L' H2 ∧ H2 D = some (.lst xs) ∧ L' D = none ∧ RpA K as L' xs acc ∧ lcRun g tt te (wipeR ρ vs) P (ds.drop (i + 1)) acc M', fun H2 q => ⟨ds.length - (i + 1), by omega, rfl, hlt, q⟩, fun x H2 y => ?_⟩
    obtain ⟨d, L2, hd, s2, A2, r2⟩ := wy x H2 y
    rw [List.getElem?_eq_getElem hlt] at hd
    cases hd
    have hE2 : En K as L2 (wipeS σ vs) (wipeR ρ vs) := ((hE.mono (s1.k.trans (s'.k.trans s2.k)) (Pre.refl _)).wipe vs)
    have hd2 : H2 D = some (.lst xs) := s2.up D _ dn hd'
    have ld2 : L2 D = none := s2.hid D ld' (by rw [hd']; simp)
    refine sg as L2 H2 x _ _ _ M' _ _ hE2 A2 r2 hf fun σ3 ρ3 e3 p3 wp => ⟨?_, ?_⟩
    · have z := wp vs hus
      rw [z, wipe_wipe]
    · refine st as σ3 ρ3 L2 H2 M' _ _ e3 A2 p3 fun b L3 H3 M3 s3 A3 h3 => ?_
      have s13 := (s'.trans A' s2).trans A2 s3
      have hd3 : H3 D = some (.lst xs) := s3.up D _ dn hd2
      have ld3 : L3 D = none := s3.hid D ld2 (by rw [hd2]; simp)
      cases b with
      | false =>
        rw [if_neg Bool.false_ne_true] at h3 ⊢
        exact ⟨L3, M3, xs, acc, s13, A3, hd3, ld3, ra.mono (s2.k.trans s3.k) (Pre.refl _), h3⟩
      | true =>
        rw [if_pos rfl] at h3 ⊢
        refine se as σ3 ρ3 L3 H3 M3 _ _ (e3.mono s3.k s3.pre) A3 h3 fun v z L4 H4 M4 s4 A4 h4 r4 => ?_
        have hd4 : H4 D = some (.lst xs) := s4.up D _ dn hd3
        have ld4 : L4 D = none := s4.hid D ld3 (by rw [hd3]; simp)
        have s14 := s13.trans A3 s4
        have ra4 := ra.mono (s2.k.trans (s3.k.trans s4.k)) (Pre.refl as)
        refine ⟨xs, hd4, by rw [ra4.length]; exact h4.1, L4, M4, xs ++ [v], acc ++ [z], upD s14 A4 _, base A4 hd4 ld4 dn _, upd_same, ld4, ra4.append (.one r4), h4.2⟩
  · have e : i = ds.length := by omega
    subst e
    rw [List.drop_length] at hf
    -- the list is known for good
    refine .inl ⟨ws, q _ _ (upd L' D (.lst xs)) H' M' (s1.trans A1 ⟨s'.up, s'.k.trans (Ex.new ld'), fun a h h' => ?_, Pre.refl _, fun _ h => .inl h⟩) ⟨fun a o h => ?_, A'.len, A'.nd, fun k a m e1 e2 => ?_⟩ hf (.lst (.inl (.inl upd_same)) (ra.mono (Ex.new ld') (Pre.refl _)))⟩
    · have e : a ≠ D := fun z => h' (by rw [z]; exact hD)
      rw [upd_ne e]; exact s'.hid a h h'
    · by_cases e : a = D
      · subst e; rw [upd_same] at h; rw [hd']; exact h
      · rw [upd_ne e] at h; exact A'.low a o h
    · obtain ⟨h3, o, h4, h5⟩ := A'.mo k a m e1 e2
      have e : a ≠ D := fun z => dn (by rw [← z]; exact List.mem_of_getElem? e1)
      exact ⟨by rw [upd_ne e]; exact h3, o, h4, h5.mono (Ex.new ld') (Pre.refl _)⟩
end Pd

set_option Elab.async false
set_option linter.all false
set_option maxRecDepth 100000
namespace Pd
open PySem PySem.Spec PyProof.Rows L2

/-! ### one reading for all contexts over one text -/
def upE (K : PySem.W.Frag) (t : DE) : TE := fun σ H Q => ∃ as ρ L M P, En K as L σ ρ ∧ At K as M L H ∧ t ρ M P ∧ ∀ v d L' H' M', Step as L H as L' H' → At K as M' L' H' → P d M' → Rp K as L' v d → Q v H'
def upT (K : PySem.W.Frag) (t : DT) : TT := fun σ H Q => ∃ as ρ L M P, En K as L σ ρ ∧ At K as M L H ∧ t ρ M P ∧ ∀ b L' H' M', Step as L H as L' H' → At K as M' L' H' → P b M' → Q b H'
def upG (K : PySem.W.Frag) (t : DG) (ts : List Nat) : TG := fun v σ H Q => ∃ as L d ρ M P, En K as L σ ρ ∧ At K as M L H ∧ Rp K as L v d ∧ t d ρ P ∧ ∀ σ' ρ', En K as L σ' ρ' → P ρ' → (∀ vs, (∀ i ∈ ts, i ∈ vs) → L2.wipe σ' vs = L2.wipe σ vs) → Q σ' H
theorem sim_upE {K : PySem.W.Frag} (t : DE) : SimE K (upE K t) t := fun as σ ρ L H M P Q hE A h q => ⟨as, ρ, L, M, P, hE, A, h, q⟩
theorem sim_upT {K : PySem.W.Frag} (t : DT) : SimT K (upT K t) t := fun as σ ρ L H M P Q hE A h q => ⟨as, ρ, L, M, P, hE, A, h, q⟩
theorem sim_upG {K : PySem.W.Frag} (t : DG) (ts : List Nat) : SimG K (upG K t ts) t ts := fun as L H v d σ ρ M P Q hE A r h q => ⟨as, L, d, ρ, M, P, hE, A, r, h, q⟩
theorem PD.up {X : Cx} {e : Expr} {t : DE} (h : PD X e t) : PE X e (upE X.K t) := by
  obtain ⟨u, p, s⟩ := h.ex
  exact ⟨fun pins sh σ H Q I ⟨as, ρ, L, M, P, hE, A, h, q⟩ => p.run pins sh σ H Q I (s as σ ρ L H M P Q hE A h q)⟩
theorem PDTs.up {X : Cx} {es : List Expr} {t : DT} (h : PDTs X es t) : PTs X es (upT X.K t) := by
  obtain ⟨u, p, s⟩ := h.ex
  exact ⟨fun pins sh σ H Q I ⟨as, ρ, L, M, P, hE, A, h, q⟩ => p.run pins sh σ H Q I (s as σ ρ L H M P Q hE A h q)⟩
theorem PDG.up {X : Cx} {tg : Expr} {t : DG} {ts : List Nat} (h : PDG X tg t ts) : PG X tg (upG X.K t ts) := by
  obtain ⟨g, p, s⟩ := h.ex
  exact ⟨fun pins sh σ H v u Q I r ⟨as, L, d, ρ, M, P, hE, A, rp, h, q⟩ => p.run pins sh σ H v u Q I r (s as L H v d σ ρ M P Q hE A rp h q)⟩
theorem pdts_nil {X : Cx} : PDTs X [] dYes := ⟨_, pts_nil, fun as σ ρ L H M P Q hE A h q => q true L H M .refl A h⟩
theorem pdts_one {X : Cx} {c : Expr} {t : DT} (h : PDT X c t) : PDTs X [c] t := by
  obtain ⟨u, p, s⟩ := h.ex
  exact ⟨_, pts_one p, s⟩
section
variable {X : Cx}
theorem pd_lc {elt tg iter : Expr} {ifs : List Expr} {scope : Scope} (own : List (Str × Nat)) {pos : Pos} {it : DA} {g : DG} {us : List Nat} {tt : DT} {te : DE} (hc : X.calm = true) (hN : X.N.Nodup) (hi : PDI X tg iter it) (ok : BlkOk X.N X.env.scope scope own)
    (hg : ∀ (s : Shared) (H : Hp) (C : Addr) (cl : List (Str × Addr)) (fp : List Addr), PDG (X.blk s H scope (compEnvC scope cl C X.env) fp) tg g us) (ht : ∀ (s : Shared) (H : Hp) (C : Addr) (cl : List (Str × Addr)) (fp : List Addr), PDTs (X.blk s H scope (compEnvC scope cl C X.env) fp) ifs tt)
    (he : ∀ (s : Shared) (H : Hp) (C : Addr) (cl : List (Str × Addr)) (fp : List Addr), PD (X.blk s H scope (compEnvC scope cl C X.env) fp) elt te) (hu : ∀ i ∈ us, i ∈ own.map (·.2) := by decide) (hs : ∀ x, foldedSetIterable iter X.env x = pure x := by intro _; rfl) :
    PD X (.ListComp elt [⟨tg, iter, ifs, 0⟩] scope pos) (dLc it g tt te (own.map (·.2))) := by
  obtain ⟨wi, p, s⟩ := hi.ex
  exact ⟨_, pe_lc hc hN p ok (fun a b c d e => (hg a b c d e).up) (fun a b c d e => (ht a b c d e).up) (fun a b c d e => (he a b c d e).up) hs, sim_lc hu s (sim_upG g us) (sim_upT tt) (sim_upE te)⟩
/-- y = [..], y a local -/
theorem pds_setLc (i : Nat) {y : Str} {py : Pos} {elt tg iter : Expr} {ifs : List Expr} {scope : Scope} (own : List (Str × Nat)) {pos spos : Pos} {it : DA} {g : DG} {us : List Nat} {tt : DT} {te : DE} (hc : X.calm = true) (hN : X.N.Nodup) (hy : X.N[i]? = some y) (hyl : X.env.scope.names.lookup y = some .local)
    (hsw : swapsWith (.ListComp elt [⟨tg, iter, ifs, 0⟩] scope pos) (some (.Name y py)) spos.line X.env = pure true) (hi : PDI X tg iter it) (ok : BlkOk X.N X.env.scope scope own)
    (hg : ∀ (s : Shared) (H : Hp) (C : Addr) (cl : List (Str × Addr)) (fp : List Addr), PDG (X.blk s H scope (compEnvC scope cl C X.env) fp) tg g us) (ht : ∀ (s : Shared) (H : Hp) (C : Addr) (cl : List (Str × Addr)) (fp : List Addr), PDTs (X.blk s H scope (compEnvC scope cl C X.env) fp) ifs tt)
    (he : ∀ (s : Shared) (H : Hp) (C : Addr) (cl : List (Str × Addr)) (fp : List Addr), PD (X.blk s H scope (compEnvC scope cl C X.env) fp) elt te) (hu : ∀ i ∈ us, i ∈ own.map (·.2) := by decide) (hs : ∀ x, foldedSetIterable iter X.env x = pure x := by intro _; rfl) :
    PDS X (.Assign [.Name y py] (.ListComp elt [⟨tg, iter, ifs, 0⟩] scope pos) spos) (sAsg (dLc it g tt te (own.map (·.2))) (gN i)) := by
  obtain ⟨wi, p, s⟩ := hi.ex
  exact ⟨_, ps_setLc (i := i) hc hN hy hyl hsw p ok (fun a b c d e => (hg a b c d e).up) (fun a b c d e => (ht a b c d e).up) (fun a b c d e => (he a b c d e).up) hs, sim_asg (sim_lc hu s (sim_upG g us) (sim_upT tt) (sim_upE te)) (sim_gN i)⟩
end

/-! ### a def, by its body -/
def startD (N : List Str) (ds : List D) : Rho := ds.map some ++ List.replicate (N.length - ds.length) none
theorem en_start {K : PySem.W.Frag} {as : List Addr} {L : Hp} {N : List Str} {vs : List V} {ds : List D} (r : RpA K as L vs ds) : En K as L (L2.start N vs) (startD N ds) := by
  refine ⟨?_, fun i d h => ?_⟩
  · unfold L2.start startD
    rw [List.length_append, List.length_append, List.length_map, List.length_map, List.length_replicate, List.length_replicate, r.length]
  · unfold startD at h
    unfold L2.start
    by_cases hi : i < ds.length
    · rw [List.getElem?_append_left (by simpa using hi), List.getElem?_map] at h
      cases e : ds[i]? with
      | none => rw [e] at h; cases h
      | some d' =>
        rw [e] at h
        cases h
        obtain ⟨v, h1, h2⟩ := r.get e
        refine ⟨v, ?_, h2⟩
        rw [List.getElem?_append_left (by rw [List.length_map, r.length]; exact hi), List.getElem?_map, h1]
        rfl
    · rw [List.getElem?_append_right (by simpa using hi), List.getElem?_replicate] at h
      split at h <;> cases h
section
variable {P : Program} {w : World} {K : PySem.W.Frag} {mg : Str → Option Value} {base : Heap}
theorem pd_fn {x qual : Str} {st : Stmt} {f : Addr} {fd : FuncData} {N ps : List Str} {k : Nat} {W : DC} (F : Fun K x qual st f fd) (S : FnScope N ps (defScope st))
    (hbody : ∀ (cdv : Value) (A : Around) (outer : List Env) (s : Shared) (H : Hp) (E : XK), Room k (A.deeper (envOfC qual (defScope st) s.heap.objs.size f cdv)) →
      ∃ t, PDSs (cxOf CX0 P w K mg base N qual (defScope st) f cdv A outer s H E).nox (defBody st) t ∧ ∀ ds M Q, ds.length = ps.length → W ds M Q → t { nx := fun _ M' => Q .non M', rt := Q } (startD N ds) M) :
    FnOk P w K mg base CX0 (k + 1) f fd ps (spD ps.length W K) := by
  refine F.ok S (fun vs H Q E h => h.1) (fun cdv A outer s H vs Q E hr h => ?_)
  obtain ⟨hl, as, M, L, ds, P', r, A0, hw, q⟩ := h
  obtain ⟨t, ht, hb⟩ := hbody cdv A outer s H E hr
  obtain ⟨ts, pt, st'⟩ := ht.ex
  refine ⟨ts, pt, st' as (L2.start N vs) (startD N ds) L H M _ _ (en_start r) A0 (hb ds M P' (by rw [← r.length]; exact hl) hw) ⟨?_, ?_, ?_, ?_⟩⟩
  · exact fun σ' ρ' L' H' M' s1 A1 _ p => q .non .non L' H' M' s1 A1 p .non
  · exact fun v d L' H' M' s1 A1 p r => q v d L' H' M' s1 A1 p r
  · exact fun _ _ _ _ _ _ _ _ p => p.elim
  · exact fun _ _ _ _ _ _ _ _ p => p.elim
end

/-! ### operators over data -/
section
variable {K : PySem.W.Frag}
theorem RpInt {as : List Addr} {L : Hp} {x : V} {i : Int} (h : Rp K as L x (.int i)) : x = .int i := by cases h; rfl
def oI0 (g : Int → Int → D) : D2 := fun x y M P => ∃ i j, x = .int i ∧ y = .int j ∧ P (g i j) M
def oI (C : Int → Int → Prop) (g : Int → Int → D) : D2 := fun x y M P => ∃ i j, x = .int i ∧ y = .int j ∧ C i j ∧ P (g i j) M
def oU (g : Int → D) : D1 := fun x M P => ∃ i, x = .int i ∧ P (g i) M
theorem sr_I0i {g : Int → Int → Int} : SimR K (rI0 fun i j => .int (g i j)) (oI0 fun i j => .int (g i j)) := by
  intro as L H M x y d e P Q A r1 r2 ⟨i, j, h1, h2, p⟩ q
  subst h1; subst h2
  cases r1; cases r2
  exact ⟨i, j, rfl, rfl, q _ _ L H M .refl A p (.int _)⟩
theorem sr_I0b {g : Int → Int → Bool} : SimR K (rI0 fun i j => .bl (g i j)) (oI0 fun i j => .bl (g i j)) := by
  intro as L H M x y d e P Q A r1 r2 ⟨i, j, h1, h2, p⟩ q
  subst h1; subst h2
  cases r1; cases r2
  exact ⟨i, j, rfl, rfl, q _ _ L H M .refl A p (.bl _)⟩
theorem sr_I {C : Int → Int → Prop} {g : Int → Int → Int} : SimR K (rI C fun i j => .int (g i j)) (oI C fun i j => .int (g i j)) := by
  intro as L H M x y d e P Q A r1 r2 ⟨i, j, h1, h2, c, p⟩ q
  subst h1; subst h2
  cases r1; cases r2
  exact ⟨i, j, rfl, rfl, c, q _ _ L H M .refl A p (.int _)⟩
theorem su_U {g : Int → Int} : SimU K (rU fun i => .int (g i)) (oU fun i => .int (g i)) := by
  intro as L H M x d P Q A r1 ⟨i, h1, p⟩ q
  subst h1
  cases r1
  exact ⟨i, rfl, q _ _ L H M .refl A p (.int _)⟩

/-! data that == may read -/
mutual
def plain : D → Bool
  | .non => true | .bl _ => true | .int _ => true | .str _ => true
  | .lst ds => plainA ds | .tup ds => plainA ds
  | _ => false
def plainA : List D → Bool
  | [] => true
  | d :: ds => plain d && plainA ds
end
mutual
def toP : D → PyData
  | .non => .none | .bl b => .bool b | .int i => .int i | .str x => .str x
  | .lst ds => .list (toPA ds) | .tup ds => .tuple (toPA ds)
  | _ => .none
def toPA : List D → List PyData
  | [] => []
  | d :: ds => toP d :: toPA ds
end
mutual
theorem Rp.dp {as : List Addr} {L H : Hp} (e : Ex L H) : ∀ {v : V} {d : D}, Rp K as L v d → plain d = true → Dp K H v (toP d)
  | _, _, .non, _ => .non
  | _, _, .bl b, _ => .bl b
  | _, _, .int i, _ => .int i
  | _, _, .str x, _ => .str x
  | _, _, .lst h r, p => .lst (ex_l e h) (RpA.dp e r p)
  | _, _, .tup h r, p => .tup (ex_t e h) (RpA.dp e r p)
theorem RpA.dp {as : List Addr} {L H : Hp} (e : Ex L H) : ∀ {vs : List V} {ds : List D}, RpA K as L vs ds → plainA ds = true → DpAll K H vs (toPA ds)
  | _, _, .nil, _ => .nil
  | _, _, .cons r t, p => by
    have p' := Bool.and_eq_true_iff.mp p
    exact .cons (Rp.dp e r p'.1) (RpA.dp e t p'.2)
end
def eqD (d e : D) : Bool := PyData.eqv (toP d) (toP e)
def okD (d : D) : Bool := plain d && SeqAt.shaped (toP d)
def oEq : D2 := fun x y M P => okD x = true ∧ okD y = true ∧ P (.bl (eqD x y)) M
def oNe : D2 := fun x y M P => okD x = true ∧ okD y = true ∧ P (.bl (!eqD x y)) M
theorem sr_eq : SimR K (rEqD K) oEq := by
  intro as L H M x y d e P Q A r1 r2 ⟨h1, h2, p⟩ q
  have g1 := Bool.and_eq_true_iff.mp h1
  have g2 := Bool.and_eq_true_iff.mp h2
  exact ⟨_, _, r1.dp A.low g1.1, r2.dp A.low g2.1, g1.2, g2.2, q _ _ L H M .refl A p (.bl _)⟩
theorem sr_ne : SimR K (rNeD K) oNe := by
  intro as L H M x y d e P Q A r1 r2 ⟨h1, h2, p⟩ q
  have g1 := Bool.and_eq_true_iff.mp h1
  have g2 := Bool.and_eq_true_iff.mp h2
  exact ⟨_, _, r1.dp A.low g1.1, r2.dp A.low g2.1, g1.2, g2.2, q _ _ L H M .refl A p (.bl _)⟩
theorem eqD_refl {d : D} (h : okD d = true) : eqD d d = true := SeqAt.eqv_refl _ (SeqAt.canLay_of_shaped (Bool.and_eq_true_iff.mp h).2)

/-! subscripts -/
def oIxL : D2 := fun x y M P => ∃ ds i v, x = .lst ds ∧ y = .int i ∧ (0 ≤ i ∧ ds[i.toNat]? = some v) ∧ P v M
def oIxT : D2 := fun x y M P => ∃ ds i v, x = .tup ds ∧ y = .int i ∧ (0 ≤ i ∧ ds[i.toNat]? = some v) ∧ P v M
theorem at_in {as : List Addr} {L : Hp} {xs : List V} {ds : List D} {i : Int} {d : D} (r : RpA K as L xs ds) (h : 0 ≤ i ∧ ds[i.toNat]? = some d) : ∃ v, atI xs i = some v ∧ Rp K as L v d := by
  obtain ⟨v, h1, h2⟩ := r.get h.2
  exact ⟨v, at_of (by omega) h1, h2⟩
theorem sr_ixL : SimR K (rIxL K) oIxL := by
  intro as L H M x y d e P Q A r1 r2 ⟨ds, i, v, h1, h2, h3, p⟩ q
  subst h1; subst h2
  cases r2
  cases r1 with
  | lst hs ra =>
    obtain ⟨z, h4, h5⟩ := at_in ra h3
    exact ⟨_, _, i, z, rfl, rfl, ex_l A.low hs, h4, q _ _ L H M .refl A p h5⟩
theorem sr_ixT : SimR K (rIxT K) oIxT := by
  intro as L H M x y d e P Q A r1 r2 ⟨ds, i, v, h1, h2, h3, p⟩ q
  subst h1; subst h2
  cases r2
  cases r1 with
  | tup hs ra =>
    obtain ⟨z, h4, h5⟩ := at_in ra h3
    exact ⟨_, _, i, z, rfl, rfl, ex_t A.low hs, h4, q _ _ L H M .refl A p h5⟩
/-! built-ins -/
def oLen : DC := fun xs M P => ∃ ds, (xs = [.lst ds] ∨ xs = [.tup ds]) ∧ P (.int ds.length) M
theorem sc_len : SimC K (fun xs H Q => ∃ p ys, xs = [.ref p] ∧ (SqL K H p ys ∨ SqT K H p ys) ∧ Q (.int ys.length) H) oLen := by
  intro as L H M xs ds P Q A r ⟨es, h, p⟩ q
  rcases h with h | h
  · subst h
    cases r with
    | cons r1 r2 =>
      cases r2
      cases r1 with
      | lst hs ra =>
        refine ⟨_, _, rfl, .inl (ex_l A.low hs), ?_⟩
        rw [ra.length]
        exact q _ _ L H M .refl A p (.int _)
  · subst h
    cases r with
    | cons r1 r2 =>
      cases r2
      cases r1 with
      | tup hs ra =>
        refine ⟨_, _, rfl, .inr (ex_t A.low hs), ?_⟩
        rw [ra.length]
        exact q _ _ L H M .refl A p (.int _)
theorem RpA.ints {as : List Addr} {L : Hp} : ∀ {xs : List V} {ns : List Int}, RpA K as L xs (ns.map D.int) → xs = ns.map V.int
  | _, [], .nil => rfl
  | [], _ :: _, h => by cases h
  | x :: xs, n :: ns, .cons r t => by
    cases r
    rw [RpA.ints t]
    rfl
theorem RpA.bls {as : List Addr} {L : Hp} : ∀ {xs : List V} {bs : List Bool}, RpA K as L xs (bs.map D.bl) → xs = bs.map V.bl
  | _, [], .nil => rfl
  | [], _ :: _, h => by cases h
  | x :: xs, n :: ns, .cons r t => by
    cases r
    rw [RpA.bls t]
    rfl
def oSum : DC := fun xs M P => ∃ ns : List Int, xs = [.lst (ns.map D.int)] ∧ P (.int ns.sum) M
theorem sc_sum : SimC K (rSum K) oSum := by
  intro as L H M xs ds P Q A r ⟨ns, h, p⟩ q
  subst h
  cases r with
  | cons r1 r2 =>
    cases r2
    cases r1 with
    | lst hs ra =>
      have e := ra.ints
      subst e
      exact ⟨_, ns, rfl, ex_l A.low hs, q _ _ L H M .refl A p (.int _)⟩
def oAll : DC := fun xs M P => ∃ bs : List Bool, xs = [.lst (bs.map D.bl)] ∧ P (.bl (bs.all id)) M
def oAny : DC := fun xs M P => ∃ bs : List Bool, xs = [.lst (bs.map D.bl)] ∧ P (.bl (bs.any id)) M
theorem sc_all : SimC K (rAll K) oAll := by
  intro as L H M xs ds P Q A r ⟨ns, h, p⟩ q
  subst h
  cases r with
  | cons r1 r2 =>
    cases r2
    cases r1 with
    | lst hs ra =>
      have e := ra.bls
      subst e
      exact ⟨_, ns, rfl, ex_l A.low hs, q _ _ L H M .refl A p (.bl _)⟩
theorem sc_any : SimC K (rAny K) oAny := by
  intro as L H M xs ds P Q A r ⟨ns, h, p⟩ q
  subst h
  cases r with
  | cons r1 r2 =>
    cases r2
    cases r1 with
    | lst hs ra =>
      have e := ra.bls
      subst e
      exact ⟨_, ns, rfl, ex_l A.low hs, q _ _ L H M .refl A p (.bl _)⟩
def oInt : DC := fun xs M P => (∃ i, xs = [.int i] ∧ P (.int i) M) ∨ ∃ b, xs = [.bl b] ∧ P (.int (if b then 1 else 0)) M
theorem sc_int : SimC K (fun xs H Q => (∃ i, xs = [.int i] ∧ Q (.int i) H) ∨ ∃ k, xs = [.bl k] ∧ Q (.int (if k then 1 else 0)) H) oInt := by
  intro as L H M xs ds P Q A r h q
  rcases h with ⟨i, h, p⟩ | ⟨b, h, p⟩
  · subst h
    cases r with
    | cons r1 r2 => cases r2; cases r1; exact .inl ⟨i, rfl, q _ _ L H M .refl A p (.int _)⟩
  · subst h
    cases r with
    | cons r1 r2 => cases r2; cases r1; exact .inr ⟨b, rfl, q _ _ L H M .refl A p (.int _)⟩
def oMax : DC := fun xs M P => ∃ i j, xs = [.int i, .int j] ∧ P (.int (if j > i then j else i)) M
def oMin : DC := fun xs M P => ∃ i j, xs = [.int i, .int j] ∧ P (.int (if j < i then j else i)) M
theorem sc_max : SimC K (fun xs H Q => ∃ i j, xs = [.int i, .int j] ∧ Q (.int (if j > i then j else i)) H) oMax := by
  intro as L H M xs ds P Q A r ⟨i, j, h, p⟩ q
  subst h
  cases r with
  | cons r1 r2 => cases r1; cases r2 with | cons r3 r4 => cases r3; cases r4; exact ⟨i, j, rfl, q _ _ L H M .refl A p (.int _)⟩
theorem sc_min : SimC K (fun xs H Q => ∃ i j, xs = [.int i, .int j] ∧ Q (.int (if j < i then j else i)) H) oMin := by
  intro as L H M xs ds P Q A r ⟨i, j, h, p⟩ q
  subst h
  cases r with
  | cons r1 r2 => cases r1; cases r2 with | cons r3 r4 => cases r3; cases r4; exact ⟨i, j, rfl, q _ _ L H M .refl A p (.int _)⟩
end
end Pd

set_option Elab.async false
set_option linter.all false
set_option maxRecDepth 100000
namespace Pd
open PySem PySem.Spec PyProof.Rows L2

/-! ### a changeable list -/
theorem At.lst {K : PySem.W.Frag} {as : List Addr} {M : Ms} {L H : Hp} {k : Nat} {a : Addr} {ds : List D} (A : At K as M L H) (h : as[k]? = some a) (hm : M[k]? = some (.lst ds)) : ∃ xs, H a = some (.lst xs) ∧ RpA K as L xs ds := by
  obtain ⟨_, o, h1, h2⟩ := A.mo k a _ h hm
  cases h2 with
  | lst r => exact ⟨_, h1, r⟩
theorem At.ins {K : PySem.W.Frag} {as : List Addr} {M : Ms} {L H : Hp} {k : Nat} {a C : Addr} {gs : List (Str × D)} (A : At K as M L H) (h : as[k]? = some a) (hm : M[k]? = some (.ins C gs)) : ∃ dx fs, H a = some (.ins C dx fs) ∧ RpF K as L fs gs := by
  obtain ⟨_, o, h1, h2⟩ := A.mo k a _ h hm
  cases h2 with
  | ins r => exact ⟨_, _, h1, r⟩
/-- the k-th object is changed -/
theorem At.put {K : PySem.W.Frag} {as : List Addr} {M : Ms} {L H : Hp} {k : Nat} {a : Addr} {o : HO} {m : MO} (A : At K as M L H) (h : as[k]? = some a) (r : Ro K as L o m) : At K as (M.set k m) L (upd H a o) := by
  have hk : k < as.length := (List.getElem?_eq_some_iff.mp h).1
  have hl := A.held (List.mem_of_getElem? h)
  refine ⟨fun b u e => ?_, by rw [List.length_set]; exact A.len, A.nd, fun j b m' e1 e2 => ?_⟩
  · have : b ≠ a := fun z => by rw [z, hl.1] at e; cases e
    rw [upd_ne this]; exact A.low b u e
  · by_cases hj : j = k
    · subst hj
      rw [h] at e1
      cases e1
      rw [List.getElem?_set, if_pos rfl] at e2
      split at e2
      · cases e2; exact ⟨hl.1, o, upd_same, r⟩
      · cases e2
    · rw [List.getElem?_set, if_neg (fun z => hj z.symm)] at e2
      obtain ⟨h3, o', h4, h5⟩ := A.mo j b m' e1 e2
      have hb : b ≠ a := fun z => by
        subst z
        have := (List.getElem?_inj (List.getElem?_eq_some_iff.mp e1).1 A.nd).mp (e1.trans h.symm)
        exact hj this
      exact ⟨h3, o', by rw [upd_ne hb]; exact h4, h5⟩
theorem Step.put {as : List Addr} {L H : Hp} {a : Addr} {o : HO} (h : a ∈ as) : Step as L H as L (upd H a o) :=
  ⟨fun b u hb e => by rw [upd_ne (fun z => hb (by rw [z]; exact h))]; exact e, Ex.refl _, fun _ e _ => e, Pre.refl _, fun _ e => .inl e⟩
section
variable {K : PySem.W.Frag}
def oIxM : D2 := fun x y M P => ∃ k ds i v, x = .mu k ∧ y = .int i ∧ M[k]? = some (.lst ds) ∧ (0 ≤ i ∧ ds[i.toNat]? = some v) ∧ P v M
theorem sr_ixM : SimR K (rIxL K) oIxM := by
  intro as L H M x y d e P Q A r1 r2 ⟨k, ds, i, v, h1, h2, hm, h3, p⟩ q
  subst h1; subst h2
  cases r2
  cases r1 with
  | mu hs =>
    obtain ⟨xs, h4, ra⟩ := A.lst hs hm
    obtain ⟨z, h5, h6⟩ := at_in ra h3
    exact ⟨_, xs, i, z, rfl, rfl, .inl (.inl h4), h5, q _ _ L H M .refl A p h6⟩
end
section
variable {X : Cx} {a b c e o i value : Expr} {es : List Expr} {t ta tb tc to ti tv : DE} {tl : DA} {pos pos' : Pos}
/-- o[i] = e, o a changeable list -/
def sSetI (to ti te : DE) : DS := fun De ρ M => te ρ M fun v M1 => to ρ M1 fun x M2 => ti ρ M2 fun y M3 => ∃ k ds i, x = .mu k ∧ y = .int i ∧ M3[k]? = some (.lst ds) ∧ (0 ≤ i ∧ i.toNat < ds.length) ∧ De.nx ρ (M3.set k (.lst (ds.set i.toNat v)))
theorem RpA.set {K : PySem.W.Frag} {as : List Addr} {L : Hp} {v : V} {d : D} (r : Rp K as L v d) : ∀ {xs : List V} {ds : List D} (i : Nat), RpA K as L xs ds → RpA K as L (xs.set i v) (ds.set i d)
  | _, _, _, .nil => .nil
  | _, _, 0, .cons _ t => .cons r t
  | _, _, i + 1, .cons q t => .cons q (RpA.set r i t)
theorem pds_setItem (he : PD X value tv) (ho : PD X o to) (hi : PD X i ti) (ha : ∀ v, assign (.Subscript o i pos') X.env v = (do
      let ov ← holding [v] (eval o X.env)
      let iv ← holding [v, ov] (eval i X.env)
      standAt pos'
      holding [v, ov, iv] (setItem ov iv v)
      release [v, ov, iv] []) := by intro _; rfl) (hs : swapsWithSole [.Subscript o i pos'] value pos.line X.env = pure false := by rfl) (hw : swappedStores [.Subscript o i pos'] value X.env = pure none := by rfl)
    (h1 : (assignEach [.Subscript o i pos'] X.env).map (·.2) = [assign (.Subscript o i pos') X.env] := by rfl) : PDS X (.Assign [.Subscript o i pos'] value pos) (sSetI to ti tv) := by
  obtain ⟨u, p, s⟩ := he.ex
  obtain ⟨u1, p1, s1⟩ := ho.ex
  obtain ⟨u2, p2, s2⟩ := hi.ex
  refine ⟨_, ps_asg p (pg_sub p1 p2 set_list ha) hs hw h1, ?_⟩
  intro as σ ρ L H M De D hE A h c
  refine s as σ ρ L H M _ _ hE A h fun v d L1 H1 M1 t1 A1 h1 r1 => ?_
  refine s1 as σ ρ L1 H1 M1 _ _ (hE.mono t1.k t1.pre) A1 h1 fun x d2 L2 H2 M2 t2 A2 h2 r2 => ?_
  refine s2 as σ ρ L2 H2 M2 _ _ (hE.mono (t1.k.trans t2.k) (Pre.refl _)) A2 h2 fun y d3 L3 H3 M3 t3 A3 h3 r3 => ?_
  obtain ⟨k, ds, i, rfl, rfl, hm, hi, p⟩ := h3
  cases r3
  cases r2 with
  | mu hk =>
    obtain ⟨xs, g1, g2⟩ := A3.lst hk hm
    refine ⟨_, xs, i, i.toNat, rfl, rfl, g1, ?_, ?_⟩
    · unfold ixN
      rw [if_pos hi.1, if_pos (by rw [g2.length]; omega)]
    · have r1' := r1.mono (t2.k.trans t3.k) (Pre.refl as)
      refine c.nx σ ρ L3 _ _ ((t1.trans A1 (t2.trans A2 t3)).trans A3 (Step.put (List.mem_of_getElem? hk))) (A3.put hk (.lst (g2.set r1' _))) (hE.mono (t1.k.trans (t2.k.trans t3.k)) (Pre.refl _)) p

/-! ### names of the module, built-ins as values -/
theorem pd_glob {x : Str} {v : V} {u : Value} {d : D} (hg : Gl X x) (hm : X.mg x = some u) (r : RelV v u) (hd : ∀ as L, Rp X.K as L v d) (hdb : (x == ("__debug__" : Str)) = false := by decide) : PD X (.Name x pos) (dC d) :=
  ⟨_, pe_glob hg hm r hdb, fun as σ ρ L H M P Q hE A p q => q _ _ L H M .refl A p (hd as L)⟩
theorem pd_bltn {x : Str} {v : V} {u : Value} {d : D} (hg : Gl X x) (hm : X.mg x = none) (hv : bootBuiltins x = some u) (r : RelV v u) (hd : ∀ as L, Rp X.K as L v d) (hn : x ≠ "__name__" := by decide) (hdb : (x == ("__debug__" : Str)) = false := by decide) : PD X (.Name x pos) (dC d) :=
  ⟨_, pe_bltn hg hm hv r hn hdb, fun as σ ρ L H M P Q hE A p q => q _ _ L H M .refl A p (hd as L)⟩

/-! ### isinstance -/
/-- what isinstance asks of an own class -/
structure ClsI (K : PySem.W.Frag) (C : Addr) : Prop where
  cl : Cls K C
  ha : PySem.W.findIn K (.ref C) "__class__" = some (some (.builtin "object.__class__"))
  hn : PySem.W.specialIn K (.builtin "object.__class__") "__get__" = some (some (.builtin "getset_descriptor.__get__"))
  htk : PySem.W.takesIn K (.builtin "object.__class__") = some true
  hm : PySem.W.mroIn K C (.type "object") = some true
/-- the type of data -/
inductive DTy (K : PySem.W.Frag) : D → Value → Prop
  | non : DTy K .non (.type "NoneType")
  | bl (b : Bool) : DTy K (.bl b) (.type "bool")
  | int (i : Int) : DTy K (.int i) (.type "int")
  | str (x : Str) : DTy K (.str x) (.type "str")
  | lst (ds : List D) : DTy K (.lst ds) (.type "list")
  | tup (ds : List D) : DTy K (.tup ds) (.type "tuple")
  | ins {C : Addr} {fs : List (Str × D)} (h : ClsI K C) : DTy K (.ins C fs) (.ref C)
inductive DCl : D → V → Value → Prop
  | ty (n : String) : DCl (.ty n) (.ty n) (.type n)
  | ob (C : Addr) : DCl (.ob C) (.ref C) (.ref C)
theorem DTy.ty {K : PySem.W.Frag} {as : List Addr} {M : Ms} {L H : Hp} {v : V} {d : D} {t : Value} (A : At K as M L H) (r : Rp K as L v d) (h : DTy K d t) : TyX K H v t := by
  cases h with
  | non => cases r; exact .base .non
  | bl b => cases r; exact .base (.bl b)
  | int b => cases r; exact .base (.int b)
  | str b => cases r; exact .base (.str b)
  | lst ds =>
    cases r with
    | lst hs _ =>
      rcases ex_l A.low hs with (h | ⟨o, h⟩) | ⟨o, its, n, h1, h2, _⟩
      · exact .base (.lst h)
      · exact .base (.frz h)
      · exact .kList h1 h2
  | tup ds =>
    cases r with
    | tup hs _ =>
      rcases ex_t A.low hs with (h | ⟨o, h⟩) | ⟨o, its, n, h1, h2, _⟩
      · exact .base (.tup h)
      · exact .fTuple h
      · exact .kTuple h1 h2
  | ins h =>
    cases r with
    | ins hs _ => exact .base (.ins (A.low _ _ hs) h.cl h.ha h.hn h.htk h.hm)
def oIsi (K : PySem.W.Frag) : DC := fun xs M P => ∃ x c t v u b, xs = [x, c] ∧ DTy K x t ∧ DCl c v u ∧ PySem.W.kitOne K t u = some b ∧ P (.bl b) M
theorem sc_isi {K : PySem.W.Frag} : SimC K (rIsi K) (oIsi K) := by
  intro as L H M xs ds P Q A r ⟨x, c, t, v, u, b, h, ht, hc, hk, p⟩ q
  subst h
  cases r with
  | cons r1 r2 =>
    cases r2 with
    | cons r3 r4 =>
      cases r4
      cases hc with
      | ty n => cases r3; exact ⟨_, _, t, _, b, rfl, .ty n, DTy.ty A r1 ht, hk, q _ _ L H M .refl A p (.bl b)⟩
      | ob C => cases r3; exact ⟨_, _, t, _, b, rfl, .own C, DTy.ty A r1 ht, hk, q _ _ L H M .refl A p (.bl b)⟩
/-- isinstance(e, (T1, T2)) -/
def dIsi2 (K : PySem.W.Frag) (te : DE) (n1 n2 : String) : DE := fun ρ M P => te ρ M fun x M1 => ∃ t b, DTy K x t ∧ PySem.W.kitAny K t [.type n1, .type n2] = some b ∧ P (.bl b) M1
theorem pd_isi2 {n1 n2 : Str} {T1 T2 : String} {p p1 p2 tp : Pos} {k : Nat} {te : DE} (hg : Gl X "isinstance") (hm : X.mg "isinstance" = none) (he : PD X e te) (g1 : Gl X n1) (m1 : X.mg n1 = none) (v1 : bootBuiltins n1 = some (.type T1)) (g2 : Gl X n2) (m2 : X.mg n2 = none) (v2 : bootBuiltins n2 = some (.type T2))
    (d1 : n1 ≠ "__name__" := by decide) (d2 : n2 ≠ "__name__" := by decide) (e1 : (n1 == ("__debug__" : Str)) = false := by decide) (e2 : (n2 == ("__debug__" : Str)) = false := by decide)
    (hs1 : starEach [e, .Tuple [.Name n1 p1, .Name n2 p2] k tp] X.env = (false, eval e X.env) :: starEach [.Tuple [.Name n1 p1, .Name n2 p2] k tp] X.env := by rfl) (hs2 : starEach [.Tuple [.Name n1 p1, .Name n2 p2] k tp] X.env = (false, eval (.Tuple [.Name n1 p1, .Name n2 p2] k tp) X.env) :: starEach [] X.env := by rfl)
    (hs3 : starEach [.Name n1 p1, .Name n2 p2] X.env = (false, eval (.Name n1 p1) X.env) :: starEach [.Name n2 p2] X.env := by rfl) (hs4 : starEach [.Name n2 p2] X.env = (false, eval (.Name n2 p2) X.env) :: starEach [] X.env := by rfl)
    (hpl : (backTo pos (starEach [.Tuple [.Name n1 p1, .Name n2 p2] k tp] X.env)).any (·.1) = false := by rfl) (hb : bootBuiltins "isinstance" = some (.builtin "isinstance") := by decide +kernel) :
    PD X (.Call (.Name "isinstance" p) [e, .Tuple [.Name n1 p1, .Name n2 p2] k tp] [] pos) (dIsi2 X.K te T1 T2) := by
  obtain ⟨u, pe, s⟩ := he.ex
  refine ⟨_, pe_callB call_isiT hg hm hb (pa_cons pe (pa_cons (pe_tup (pa_cons (pe_bltn (v := .ty T1) g1 m1 v1 rfl d1 e1) (pa_cons (pe_bltn (v := .ty T2) g2 m2 v2 rfl d2 e2) pa_nil hs4) hs3)) pa_nil hs2) hs1) (by decide) (by decide) hs1 hpl, ?_⟩
  intro as σ ρ L H M P Q hE A h q
  refine s as σ ρ L H M _ _ hE A h fun v d L1 H1 M1 s1 A1 h1 r1 => ?_
  obtain ⟨t, b, ht, hk, p⟩ := h1
  refine ⟨by show 2 ≤ sizeLine; decide, fun pT hT => ?_⟩
  have A2 := A1.know (o := .tup [.ty T1, .ty T2]) hT
  have s2 := Step.know (o := .tup [.ty T1, .ty T2]) A1 hT
  exact ⟨v, pT, _, t, _, b, rfl, upd_same, .cons (.ty T1) (.cons (.ty T2) .nil), DTy.ty A2 (r1.mono s2.k (Pre.refl _)) ht, hk, q _ _ _ _ M1 (s1.trans A1 s2) A2 p (.bl b)⟩

/-! ### attributes -/
def dFld (K : PySem.W.Frag) (t : DE) (f : Str) : DE := fun ρ M P => t ρ M fun x M1 => ∃ C fs v, x = .ins C fs ∧ Cls K C ∧ NoAttr K C f ∧ fs.lookup f = some v ∧ P v M1
theorem pd_fld {f : Str} (he : PD X e t) (hb : attributeBase e f X.env (eval e X.env) = eval e X.env := by rfl) : PD X (.Attribute e f pos) (dFld X.K t f) := by
  obtain ⟨u, p, s⟩ := he.ex
  refine ⟨_, pe_fld p hb, ?_⟩
  intro as σ ρ L H M P Q hE A h q
  refine s as σ ρ L H M _ _ hE A h fun v d L1 H1 M1 s1 A1 h1 r1 => ?_
  obtain ⟨C, fs, w, rfl, c, n, hl, p⟩ := h1
  cases r1 with
  | ins hs rf =>
    obtain ⟨z, h2, h3⟩ := rf.look hl
    exact ⟨_, C, _, _, z, rfl, A1.low _ _ hs, c, n, h2, q _ _ L1 H1 M1 s1 A1 p h3⟩
/-- a property -/
def dProp (C : Addr) (W : DC) (t : DE) : DE := fun ρ M P => t ρ M fun x M1 => ∃ fs, x = .ins C fs ∧ W [x] M1 P
theorem pd_prop {C p g : Addr} {k : Nat} {f : Str} {fd : FuncData} {ps : List Str} {W : DC} (he : PD X e t) (c : Cls X.K C) (hp : PropOf X.K C f p g) (F : FnOk X.prog X.w X.K X.mg X.base CX0 k g fd ps (spD 1 W X.K)) (hr : Room (k + 1) X.A) (hb : Binds X.K fd ps [])
    (hab : attributeBase e f X.env (eval e X.env) = eval e X.env := by rfl) : PD X (.Attribute e f pos) (dProp C W t) := by
  obtain ⟨u, pp, s⟩ := he.ex
  refine ⟨_, pe_prop pp c hp F hr hb .nil (E := E0) (pass0 (X := X.nox)) hab, ?_⟩
  intro as σ ρ L H M P Q hE A h q
  refine s as σ ρ L H M _ _ hE A h fun v d L1 H1 M1 s1 A1 h1 r1 => ?_
  obtain ⟨fs, rfl, hw⟩ := h1
  have r1' := r1
  cases r1 with
  | ins hs rf => exact ⟨_, _, _, rfl, A1.low _ _ hs, rfl, as, M1, L1, _, P, .cons r1' .nil, A1, hw, fun v z L2 H2 M2 s2 A2 h2 r2 => q v z L2 H2 M2 (s1.trans A1 s2) A2 h2 r2⟩

/-! ### a new instance -/
mutual
/-- the k-th changeable object is not within -/
def apart (k : Nat) : D → Bool
  | .lst ds => apartA k ds | .tup ds => apartA k ds | .ins _ fs => apartF k fs | .mu j => decide (j < k)
  | _ => true
def apartA (k : Nat) : List D → Bool
  | [] => true
  | d :: ds => apart k d && apartA k ds
def apartF (k : Nat) : List (Str × D) → Bool
  | [] => true
  | (_, d) :: fs => apart k d && apartF k fs
end
def apartM (k : Nat) (M : Ms) : Bool := M.all fun m => match m with
  | .lst ds => apartA k ds
  | .ins _ fs => apartF k fs
section
variable {K : PySem.W.Frag} {as : List Addr} {x : Addr} {L : Hp}
mutual
theorem Rp.cut : ∀ {v : V} {d : D}, Rp K (as ++ [x]) L v d → apart as.length d = true → Rp K as L v d
  | _, _, .non, _ => .non
  | _, _, .bl b, _ => .bl b
  | _, _, .int i, _ => .int i
  | _, _, .str z, _ => .str z
  | _, _, .lst h r, p => .lst h (RpA.cut r p)
  | _, _, .tup h r, p => .tup h (RpA.cut r p)
  | _, _, .ins h r, p => .ins h (RpF.cut r p)
  | _, _, .mu (k := k) h, p => .mu (by rw [List.getElem?_append_left (of_decide_eq_true p)] at h; exact h)
  | _, _, .ob a, _ => .ob a
  | _, _, .ty n, _ => .ty n
theorem RpA.cut : ∀ {vs : List V} {ds : List D}, RpA K (as ++ [x]) L vs ds → apartA as.length ds = true → RpA K as L vs ds
  | _, _, .nil, _ => .nil
  | _, _, .cons r t, p => .cons (Rp.cut r (Bool.and_eq_true_iff.mp p).1) (RpA.cut t (Bool.and_eq_true_iff.mp p).2)
theorem RpF.cut : ∀ {fs : List (Str × V)} {gs : List (Str × D)}, RpF K (as ++ [x]) L fs gs → apartF as.length gs = true → RpF K as L fs gs
  | _, _, .nil, _ => .nil
  | _, _, .cons r t, p => .cons (Rp.cut r (Bool.and_eq_true_iff.mp p).1) (RpF.cut t (Bool.and_eq_true_iff.mp p).2)
end
end
theorem pre_app (as : List Addr) (x : Addr) : Pre as (as ++ [x]) := fun k a h => by
  rw [List.getElem?_append_left (List.getElem?_eq_some_iff.mp h).1]
  exact h
/-- C(e, ..): __init__ is given the new instance as the last changeable object -/
def dMake (C : Addr) (n : Nat) (W : DC) (tl : DA) : DE := fun ρ M P => tl ρ M fun ds M1 => ds.length + 1 = n ∧ W (.mu M1.length :: ds) (M1 ++ [.ins C []]) fun d M2 => ∃ M3 fs, d = .non ∧ M2 = M3 ++ [.ins C fs] ∧ M3.length = M1.length ∧ apartF M1.length fs = true ∧ apartM M1.length M3 = true ∧ P (.ins C fs) M3
theorem sim_make {K : PySem.W.Frag} {C : Addr} {n : Nat} {W : DC} {u : TA} {E : XK} (s : SimA K u tl) : SimE K (tMake C (spD n W K) [] E u) (dMake C n W tl) := by
  intro as σ ρ L H M P Q hE A h q
  refine s as σ ρ L H M _ _ hE A h fun vs ds L1 H1 M1 s1 A1 h1 r1 => ?_
  intro x dx hx hdx hne
  obtain ⟨hn, hw⟩ := h1
  rw [List.append_nil]
  have xa : x ∉ as := fun z => (A1.held z).2 hx
  have lx : L1 x = none := lowfree A1 hx
  have e0 : ∀ b o, H1 b = some o → (upd (upd H1 dx (.own x)) x (.ins C dx [])) b = some o := fun b o e => by
    rw [upd_ne (ne_of_none e hx), upd_ne (ne_of_none e hdx)]
    exact e
  have A2 : At K (as ++ [x]) (M1 ++ [.ins C []]) L1 (upd (upd H1 dx (.own x)) x (.ins C dx [])) := by
    refine ⟨fun b o e => e0 b o (A1.low b o e), by rw [List.length_append, List.length_append, A1.len]; rfl, ?_, fun k a m g1 g2 => ?_⟩
    · rw [List.nodup_append]
      refine ⟨A1.nd, by simp, fun a ha b hb => ?_⟩
      rw [List.mem_singleton] at hb
      subst hb
      exact fun z => xa (z ▸ ha)
    · by_cases hk : k < as.length
      · rw [List.getElem?_append_left hk] at g1
        rw [List.getElem?_append_left (by rw [← A1.len]; exact hk)] at g2
        obtain ⟨h3, o, h4, h5⟩ := A1.mo k a m g1 g2
        exact ⟨h3, o, e0 a o h4, h5.mono (Ex.refl _) (pre_app _ _)⟩
      · have e : k = as.length := by
          have := (List.getElem?_eq_some_iff.mp g1).1
          rw [List.length_append] at this
          simp only [List.length_cons, List.length_nil] at this
          omega
        subst e
        rw [List.getElem?_append_right (Nat.le_refl _), Nat.sub_self] at g1
        rw [A1.len, List.getElem?_append_right (Nat.le_refl _), Nat.sub_self] at g2
        cases g1
        cases g2
        exact ⟨lx, _, upd_same, .ins .nil⟩
  refine ⟨by rw [List.length_cons, r1.length]; exact hn, as ++ [x], M1 ++ [.ins C []], L1, _, _, .cons (.mu ?_) (r1.mono (Ex.refl _) (pre_app _ _)), A2, hw, fun v d L3 H3 M3 s3 A3 h3 r3 => ?_⟩
  · rw [← A1.len, List.getElem?_append_right (Nat.le_refl _), Nat.sub_self]
    rfl
  · obtain ⟨M4, fs, rfl, rfl, hl4, hap, hapM, p⟩ := h3
    cases r3
    refine ⟨rfl, ?_⟩
    have gx : (as ++ [x])[as.length]? = some x := by rw [List.getElem?_append_right (Nat.le_refl _), Nat.sub_self]; rfl
    have gm : (M4 ++ [MO.ins C fs])[as.length]? = some (.ins C fs) := by rw [A1.len, ← hl4, List.getElem?_append_right (Nat.le_refl _), Nat.sub_self]; rfl
    obtain ⟨dx', fv, g1, g2⟩ := A3.ins gx gm
    have g3 : RpF K as L3 fv fs := g2.cut (by rw [A1.len]; exact hap)
    have lx3 : L3 x = none := s3.hid x lx (by rw [upd_same]; simp)
    -- the instance is known for good
    have A4 : At K as M4 (upd L3 x (.ins C dx' fv)) H3 := by
      refine ⟨fun b o e => ?_, by rw [hl4]; exact A1.len, A1.nd, fun k a m e1 e2 => ?_⟩
      · by_cases hb : b = x
        · subst hb; rw [upd_same] at e; cases e; exact g1
        · rw [upd_ne hb] at e; exact A3.low b o e
      · have hk : k < as.length := (List.getElem?_eq_some_iff.mp e1).1
        obtain ⟨h5, o, h6, h7⟩ := A3.mo k a m (by rw [List.getElem?_append_left hk]; exact e1) (by rw [List.getElem?_append_left (by rw [hl4, ← A1.len]; exact hk)]; exact e2)
        have hax : a ≠ x := fun z => xa (by rw [← z]; exact List.mem_of_getElem? e1)
        refine ⟨by rw [upd_ne hax]; exact h5, o, h6, ?_⟩
        have hm := List.all_eq_true.mp hapM m (List.mem_of_getElem? e2)
        cases h7 with
        | lst r => exact .lst ((r.cut (by rw [A1.len]; exact hm)).mono (Ex.new lx3) (Pre.refl _))
        | ins r => exact .ins ((r.cut (by rw [A1.len]; exact hm)).mono (Ex.new lx3) (Pre.refl _))
    have s4 : Step as L1 H1 as (upd L3 x (.ins C dx' fv)) H3 := by
      refine ⟨fun b o hb e => ?_, fun b o e => ?_, fun b e e' => ?_, Pre.refl _, fun _ e => .inl e⟩
      · have hbx : b ≠ x := ne_of_none e hx
        refine s3.up b o (fun z => ?_) (e0 b o e)
        rcases List.mem_append.mp z with z | z
        · exact hb z
        · exact hbx (List.mem_singleton.mp z)
      · rw [upd_ne (fun z => by rw [z, lx] at e; cases e)]; exact s3.k b o e
      · have hbx : b ≠ x := fun z => e' (by rw [z]; exact hx)
        rw [upd_ne hbx]
        refine s3.hid b e ?_
        cases q2 : H1 b with
        | none => exact absurd q2 e'
        | some o => rw [e0 b o q2]; simp
    exact q _ _ _ H3 M4 (s1.trans A1 s4) A4 p (.ins upd_same (g3.mono (Ex.new lx3) (Pre.refl _)))
end
end Pd

set_option Elab.async false
set_option linter.all false
set_option maxRecDepth 100000
namespace Pd
open PySem PySem.Spec PyProof.Rows L2

/-! ### a def that hands back a new list, which the caller may change -/
abbrev DCN := List D → Ms → (List D → Ms → Prop) → Prop
def spN (n : Nat) (W : DCN) : PySem.W.Frag → Sp := fun K vs H Q _ => vs.length = n ∧ ∃ as M L ds P, RpA K as L vs ds ∧ At K as M L H ∧ W ds M P ∧
  ∀ p xs m L' H' M', Step as L H as L' H' → At K as M' L' H' → H p = none → L' p = none → H' p = some (.lst xs) → RpA K as L' xs m → P m M' → Q (.ref p) H'
section
variable {X : Cx} {e : Expr} {es : List Expr} {t : DE} {tl : DA} {pos p : Pos} {st : Stmt} {sts : List Stmt} {s1 s2 : DS}
/-- the last statement by the layer's own reading -/
theorem sim_then {K : PySem.W.Frag} {ts u : TS} {t : DS} (h : SimS K ts t) {as : List Addr} {σ : L2.St} {ρ : Rho} {L H : Hp} {M : Ms} {nx : Rho → Ms → Prop} {De : DEnds} {D : Ends} (hE : En K as L σ ρ) (A : At K as M L H) (c : Comp K as L H De D)
    (hn : ∀ σ' ρ' L' H' M', Step as L H as L' H' → At K as M' L' H' → En K as L' σ' ρ' → nx ρ' M' → u D σ' H') (ht : t { De with nx := nx } ρ M) : tSeq ts u D σ H :=
  h as σ ρ L H M _ _ hE A ht ⟨hn, c.rt, c.bk, c.ct⟩
def clean (k : Nat) (ρ : Rho) : Rho := ρ.map fun o => match o with
  | some d => if apart k d then some d else none
  | none => none
def cutE (k : Nat) (P : Rho → Ms → Prop) : Rho → Ms → Prop := fun ρ M => ∃ M3 m, M = M3 ++ [m] ∧ M3.length = k ∧ apartM k M3 = true ∧ P (clean k ρ) M3
def cutR (k : Nat) (P : D → Ms → Prop) : D → Ms → Prop := fun d M => ∃ M3 m, M = M3 ++ [m] ∧ M3.length = k ∧ apartM k M3 = true ∧ apart k d = true ∧ P d M3
theorem En.cut {K : PySem.W.Frag} {as : List Addr} {x : Addr} {L : Hp} {σ : L2.St} {ρ : Rho} (h : En K (as ++ [x]) L σ ρ) : En K as L σ (clean as.length ρ) := by
  refine ⟨by unfold clean; rw [List.length_map]; exact h.len, fun i d q => ?_⟩
  unfold clean at q
  rw [List.getElem?_map] at q
  cases e : ρ[i]? with
  | none => rw [e] at q; cases q
  | some o =>
    rw [e] at q
    cases o with
    | none => cases q
    | some d' =>
      have q' : (if apart as.length d' = true then some d' else none) = some d := Option.some.inj q
      by_cases ha : apart as.length d' = true
      · rw [if_pos ha] at q'
        cases q'
        obtain ⟨v, h1, h2⟩ := h.at_ i _ e
        exact ⟨v, h1, h2.cut ha⟩
      · rw [if_neg ha] at q'; cases q'
theorem Ro.cut {K : PySem.W.Frag} {as : List Addr} {x : Addr} {L : Hp} {o : HO} {m : MO} {M : Ms} (r : Ro K (as ++ [x]) L o m) (hm : m ∈ M) (h : apartM as.length M = true) : Ro K as L o m := by
  have hm := List.all_eq_true.mp h m hm
  cases r with
  | lst r => exact .lst (r.cut hm)
  | ins r => exact .ins (r.cut hm)
theorem At.cut {K : PySem.W.Frag} {as : List Addr} {x : Addr} {M3 : Ms} {m : MO} {L H : Hp} (A : At K (as ++ [x]) (M3 ++ [m]) L H) (h : apartM as.length M3 = true) : At K as M3 L H := by
  have hl : as.length = M3.length := by
    have := A.len
    rw [List.length_append, List.length_append] at this
    simp only [List.length_cons, List.length_nil] at this
    omega
  refine ⟨A.low, hl, (List.nodup_append.mp A.nd).1, fun k a m' e1 e2 => ?_⟩
  obtain ⟨h3, o, h4, h5⟩ := A.mo k a m' (by rw [List.getElem?_append_left (List.getElem?_eq_some_iff.mp e1).1]; exact e1) (by rw [List.getElem?_append_left (List.getElem?_eq_some_iff.mp e2).1]; exact e2)
  exact ⟨h3, o, h4, h5.cut (List.mem_of_getElem? e2) h⟩
theorem At.add {K : PySem.W.Frag} {as : List Addr} {x : Addr} {M : Ms} {L H : Hp} {xs : List V} {ds : List D} (A : At K as M L H) (hx : H x = some (.lst xs)) (lx : L x = none) (xa : x ∉ as) (r : RpA K as L xs ds) : At K (as ++ [x]) (M ++ [.lst ds]) L H := by
  refine ⟨A.low, by rw [List.length_append, List.length_append, A.len]; rfl, ?_, fun k a m g1 g2 => ?_⟩
  · rw [List.nodup_append]
    refine ⟨A.nd, by simp, fun a ha b hb => ?_⟩
    rw [List.mem_singleton] at hb
    subst hb
    exact fun z => xa (z ▸ ha)
  · by_cases hk : k < as.length
    · rw [List.getElem?_append_left hk] at g1
      rw [List.getElem?_append_left (by rw [← A.len]; exact hk)] at g2
      obtain ⟨h3, o, h4, h5⟩ := A.mo k a m g1 g2
      exact ⟨h3, o, h4, h5.mono (Ex.refl _) (pre_app _ _)⟩
    · have e : k = as.length := by
        have := (List.getElem?_eq_some_iff.mp g1).1
        rw [List.length_append] at this
        simp only [List.length_cons, List.length_nil] at this
        omega
      subst e
      rw [List.getElem?_append_right (Nat.le_refl _), Nat.sub_self] at g1
      rw [A.len, List.getElem?_append_right (Nat.le_refl _), Nat.sub_self] at g2
      cases g1
      cases g2
      exact ⟨lx, _, hx, .lst (r.mono (Ex.refl _) (pre_app _ _))⟩
/-- x = f(..), a new list that may be changed in the rest of the block -/
def sNewN (i n : Nat) (W : DCN) (tl : DA) (rest : DS) : DS := fun De ρ M => tl ρ M fun ds M1 => ds.length = n ∧ W ds M1 fun m M2 => M2.length = M1.length ∧
  rest { nx := cutE M2.length De.nx, rt := cutR M2.length De.rt, bk := cutE M2.length De.bk, ct := cutE M2.length De.ct } (ρ.set i (some (.mu M2.length))) (M2 ++ [.lst m])
theorem Step.cutx {K : PySem.W.Frag} {as : List Addr} {x : Addr} {M : Ms} {L0 H0 L H L' H' : Hp} (s : Step as L0 H0 as L H) (A : At K as M L H) (hx : H0 x = none) (t : Step (as ++ [x]) L H (as ++ [x]) L' H') : Step as L0 H0 as L' H' := by
  have there : ∀ a, H0 a ≠ none → H a ≠ none := fun a h => by
    by_cases ha : a ∈ as
    · exact (A.held ha).2
    · cases q : H0 a with
      | none => exact absurd q h
      | some o => rw [s.up a o ha q]; simp
  refine ⟨fun a o ha h => ?_, s.k.trans t.k, fun a h h' => t.hid a (s.hid a h h') (there a h'), Pre.refl _, fun _ h => .inl h⟩
  refine t.up a o (fun z => ?_) (s.up a o ha h)
  rcases List.mem_append.mp z with z | z
  · exact ha z
  · rw [List.mem_singleton.mp z, hx] at h; cases h
theorem sim_rest {K : PySem.W.Frag} {ts : TS} {rest : DS} (h : SimS K ts rest) {as : List Addr} {x : Addr} {σ : L2.St} {ρ : Rho} {i : Nat} {L0 H0 L H : Hp} {M : Ms} {m : List D} {xs : List V} {De : DEnds} {D : Ends} (hE : En K as L σ ρ) (A : At K as M L H) (hx : H x = some (.lst xs)) (lx : L x = none) (xa : x ∉ as)
    (r : RpA K as L xs m) (s : Step as L0 H0 as L H) (hx0 : H0 x = none) (c : Comp K as L0 H0 De D) (hr : rest { nx := cutE M.length De.nx, rt := cutR M.length De.rt, bk := cutE M.length De.bk, ct := cutE M.length De.ct } (ρ.set i (some (.mu M.length))) (M ++ [.lst m])) : ts D (σ.set i (some (.ref x))) H := by
  have A2 := A.add hx lx xa r
  have gx : (as ++ [x])[M.length]? = some x := by rw [← A.len, List.getElem?_append_right (Nat.le_refl _), Nat.sub_self]; rfl
  have E2 : En K (as ++ [x]) L (σ.set i (some (.ref x))) (ρ.set i (some (.mu M.length))) := (hE.mono (Ex.refl _) (pre_app _ _)).set i (.mu gx)
  have fin : ∀ {d : Rho → Ms → Prop} {v : L2.St → Hp → Prop}, EndN K as L0 H0 d v → EndN K (as ++ [x]) L H (cutE M.length d) v := by
    intro d v hd σ' ρ' L' H' M' s' A' e' q
    obtain ⟨M3, m', rfl, hl, hap, q⟩ := q
    rw [← A.len] at hap q
    exact hd σ' _ L' H' M3 (s.cutx A hx0 s') (A'.cut hap) e'.cut q
  refine h (as ++ [x]) _ _ L H _ _ D E2 A2 hr ⟨fin c.nx, fun v d L' H' M' s' A' q rv => ?_, fin c.bk, fin c.ct⟩
  obtain ⟨M3, m', rfl, hl, hap, hd, q⟩ := q
  rw [← A.len] at hap hd
  exact c.rt v d L' H' M3 (s.cutx A hx0 s') (A'.cut hap) q (rv.cut hd)
theorem pdss_newN {k i n : Nat} {f : Addr} {fd : FuncData} {ps : List Str} {W : DCN} {x y : Str} {p' cp : Pos} (hN : X.N.Nodup) (F : FnOk X.prog X.w X.K X.mg X.base CX0 k f fd ps (spN n W X.K)) (hr : Room k X.A) (hg : Gl X x) (hm : X.mg x = some (.ref f)) (hk : PySem.W.keepIn X.K (.ref f) = true)
    (hb : Binds X.K fd ps []) (ha : PDA X (e :: es) tl) (hrest : PDSs X sts s2) (hi : X.N[i]? = some y := by rfl) (hy : Loc X.env.scope y := by first | exact Or.inl rfl | exact Or.inr rfl) (hs : swapsWith (.Call (.Name x p) (e :: es) [] cp) (some (.Name y p')) pos.line X.env = pure false := by rfl)
    (hf : X.fn y = true ∨ X.env.scope.names.lookup y = some .local := by first | exact .inl rfl | exact .inr rfl | assumption)
    (hdb : (x == ("__debug__" : Str)) = false := by decide) (he : starEach (e :: es) X.env = (false, eval e X.env) :: starEach es X.env := by rfl) (hpl : (backTo cp (starEach es X.env)).any (·.1) = false := by rfl) :
    PDSs X (.Assign [.Name y p'] (.Call (.Name x p) (e :: es) [] cp) pos :: sts) (sNewN i n W tl s2) := by
  obtain ⟨u, pa, sa⟩ := ha.ex
  obtain ⟨ur, pr, sr⟩ := hrest.ex
  refine ⟨_, pss_cons (ps_set hN hi hy (pe_call F hr hg hm hk hb .nil pass0 pa hdb he hpl) hs hf) pr, ?_⟩
  intro as σ ρ L H M De D hE A h c
  refine sa as σ ρ L H M _ _ hE A h fun vs ds L1 H1 M1 s1 A1 h1 r1 => ?_
  rw [List.append_nil]
  refine ⟨by rw [r1.length]; exact h1.1, as, M1, L1, ds, _, r1, A1, h1.2, fun a xs m L2 H2 M2 s2 A2 ha0 la hx rx hw => ?_⟩
  obtain ⟨hl, hw⟩ := hw
  have an : a ∉ as := fun z => (A1.held z).2 ha0
  have hH : H a = none := by
    cases q : H a with
    | none => rfl
    | some o => rw [s1.up a o an q] at ha0; cases ha0
  exact sim_rest sr (hE.mono ((s1.trans A1 s2).k) (Pre.refl _)) A2 hx la an rx (s1.trans A1 s2) hH c hw
end
end Pd

set_option Elab.async false
set_option linter.all false
set_option maxRecDepth 100000
set_option maxHeartbeats 1000000
namespace Pd
open PySem PySem.Spec PyProof.Rows L2

/-! ### a written dict with int keys -/
structure IntD (K : PySem.W.Frag) (P : Program) (w : World) (d : Addr) (f : Int → Option Int) : Prop where
  ex : ∃ es n, K.lookup d = some ⟨.type "dict", none, .dict es n, #[]⟩ ∧ KeysOf (intKind P w) es ∧ ∀ k, (findBy Value.isInt es k = none ∧ f k = none) ∨ ∃ v t, findBy Value.isInt es k = some (.int v t) ∧ f k = some v
  low : (d == sysModules) = false
section
variable {X : Cx} {d : Addr} {f : Int → Option Int}
theorem op_in_id (D : IntD X.K X.prog X.w d f) : OpR X (compareOp .In) (fun x y H Q => ∃ z, x = .int z ∧ y = .ref d ∧ Q (.bl (f z).isSome) H) := by
  intro pins s σ H x y v u Q I rx ry h
  obtain ⟨z, rfl, rfl, q⟩ := h
  obtain ⟨t, rfl⟩ := rx
  cases ry
  obtain ⟨es, n, h1, h2, h3⟩ := D.ex
  have hm : s.heap.MapOf (intKind X.prog X.w) d (fun k => findBy Value.isInt es k) := ⟨_, es, n, I.kIn _ _ h1, ⟨rfl, rfl, rfl⟩, rfl, h2, fun _ => rfl⟩
  refine wpAny_in_of (PySem.intKind_is X.prog X.w z t) D.low hm ?_
  rcases h3 z with ⟨e1, e2⟩ | ⟨a, b, e1, e2⟩
  · rw [e1]; rw [e2] at q; exact ⟨.bl false, H, I.tok _, rfl, q⟩
  · rw [e1]; rw [e2] at q; exact ⟨.bl true, H, I.tok _, rfl, q⟩
theorem ix_id (D : IntD X.K X.prog X.w d f) : IxR X (fun x y H Q => ∃ z v, x = .ref d ∧ y = .int z ∧ f z = some v ∧ Q (.int v) H) := by
  intro value slice pins s σ H x y v u Q I rx ry h hs
  obtain ⟨z, a, rfl, rfl, hf, q⟩ := h
  cases rx
  obtain ⟨t, rfl⟩ := ry
  obtain ⟨es, n, h1, h2, h3⟩ := D.ex
  have hm : s.heap.MapOf (intKind X.prog X.w) d (fun k => findBy Value.isInt es k) := ⟨_, es, n, I.kIn _ _ h1, ⟨rfl, rfl, rfl⟩, rfl, h2, fun _ => rfl⟩
  rcases h3 z with ⟨e1, e2⟩ | ⟨b, tb, e1, e2⟩
  · rw [e2] at hf; cases hf
  · rw [e2] at hf
    cases hf
    exact tail_any hm.typeIs PySem.F.slot_dict_getitem.lookup (wpAny_getItem_of (PySem.intKind_is X.prog X.w z t) hm e1 ⟨.int a, H, I.tok _, ⟨tb, rfl⟩, q⟩) hs
end
def oInD (d : Addr) (f : Int → Option Int) : D2 := fun x y M P => ∃ z, x = .int z ∧ y = .ob d ∧ P (.bl (f z).isSome) M
theorem sr_inD {K : PySem.W.Frag} {d : Addr} {f : Int → Option Int} : SimR K (fun x y H Q => ∃ z, x = .int z ∧ y = .ref d ∧ Q (.bl (f z).isSome) H) (oInD d f) := by
  intro as L H M x y d1 e P Q A r1 r2 ⟨z, h1, h2, p⟩ q
  subst h1; subst h2
  cases r1; cases r2
  exact ⟨z, rfl, rfl, q _ _ L H M .refl A p (.bl _)⟩
def oIxD (d : Addr) (f : Int → Option Int) : D2 := fun x y M P => ∃ z v, x = .ob d ∧ y = .int z ∧ f z = some v ∧ P (.int v) M
theorem sr_ixD {K : PySem.W.Frag} {d : Addr} {f : Int → Option Int} : SimR K (fun x y H Q => ∃ z v, x = .ref d ∧ y = .int z ∧ f z = some v ∧ Q (.int v) H) (oIxD d f) := by
  intro as L H M x y d1 e P Q A r1 r2 ⟨z, v, h1, h2, h3, p⟩ q
  subst h1; subst h2
  cases r1; cases r2
  exact ⟨z, v, rfl, rfl, h3, q _ _ L H M .refl A p (.int _)⟩

/-! ### over a list or a tuple -/
def iSeqH (K : PySem.W.Frag) (tl : TE) : TI := fun σ H R => tl σ H fun x H1 => ∃ a xs, x = .ref a ∧ ((SqL K H1 a xs ∧ R (Itl K a) H1) ∨ (SqT K H1 a xs ∧ R (Itt K a) H1))
section
variable {X : Cx} {tg l e : Expr} {es : List Expr} {pos : Pos} {t : DE} {tl : DA}
theorem pi_seq {tl : TE} (hl : PE X l tl) : PI X tg l (iSeqH X.K tl) := by
  refine ⟨fun pins s σ H R I h => ?_⟩
  refine thn (hl.run pins s σ H _ I h) fun v s1 ⟨x, H1, I1, r1, q1⟩ => ?_
  obtain ⟨a, xs, e, q⟩ := q1
  subst e
  cases r1
  have fr : ∀ b ∈ [s1.heap.objs.size], FpOk X pins H1 b := fun b hb => by
    have e : b = s1.heap.objs.size := by simpa using hb
    subst e
    exact I1.fpOk (Nat.le_refl _) (I1.hok.fresh (Nat.le_refl _))
  rcases q with ⟨hq, q⟩ | ⟨hq, q⟩
  · obtain ⟨its, rv, p, hz⟩ := I1.list hq
    refine wpAny_pyIter_list p.isList ?_
    exact ⟨s1.heap.objs.size, [s1.heap.objs.size], _, _, H1, rfl, I1.kept (t' := s1.toks) fun b o e => Heap.get?_push_of_some _ e, turn_list a _, ⟨_, Heap.get?_push_size _ rfl, rfl, rfl⟩, fr, q⟩
  · obtain ⟨its, rv, p, hz⟩ := I1.tuple hq
    refine wpAny_pyIter_tuple (show s1.heap.IsTuple a its.toArray from p) ?_
    exact ⟨s1.heap.objs.size, [s1.heap.objs.size], _, _, H1, rfl, I1.kept (t' := s1.toks) fun b o e => Heap.get?_push_of_some _ e, turn_tuple a _, ⟨_, Heap.get?_push_size _ rfl, rfl, rfl⟩, fr, q⟩
/-- a list or a tuple, its items -/
def isSeq : D → List D → Prop := fun d ds => d = .lst ds ∨ d = .tup ds
def iSeq (t : DE) : DA := fun ρ M P => t ρ M fun d M1 => ∃ ds, isSeq d ds ∧ P ds M1
theorem pdi_seq (h : PD X e t) : PDI X tg e (iSeq t) := by
  obtain ⟨u, p, s⟩ := h.ex
  refine ⟨_, pi_seq p, ?_⟩
  intro as σ ρ L H M P R hE A h q
  refine s as σ ρ L H M _ _ hE A h fun v d L1 H1 M1 s1 A1 h1 r1 => ?_
  obtain ⟨ds, hd, h1⟩ := h1
  rcases hd with rfl | rfl
  · cases r1 with
    | lst hs ra => exact ⟨_, _, rfl, .inl ⟨ex_l A1.low hs, q _ ds L1 H1 M1 s1 A1 h1 (walks_list hs ra)⟩⟩
  · cases r1 with
    | tup hs ra => exact ⟨_, _, rfl, .inr ⟨ex_t A1.low hs, q _ ds L1 H1 M1 s1 A1 h1 (walks_tup hs ra)⟩⟩
/-! ### tuple(xs) -/
def oTuple : DC := fun xs M P => ∃ d ds, xs = [d] ∧ isSeq d ds ∧ P (.tup ds) M
theorem sc_tuple {K : PySem.W.Frag} : SimC K (fun xs H Q => ∃ p ys, xs = [.ref p] ∧ ((SqL K H p ys ∧ ∀ l, H l = none → Q (.ref l) (upd H l (.tup ys))) ∨ (SqT K H p ys ∧ Q (.ref p) H))) oTuple := by
  intro as L H M xs ds P Q A r ⟨d, es, h, hd, p⟩ q
  subst h
  cases r with
  | cons r1 r2 =>
    cases r2
    rcases hd with rfl | rfl
    · cases r1 with
      | lst hs ra => exact ⟨_, _, rfl, .inl ⟨ex_l A.low hs, fun l hl => q _ _ _ _ M (Step.know A hl) (A.know hl) p (.tup (.inl (.inl upd_same)) (ra.mono (Ex.new (lowfree A hl)) (Pre.refl _)))⟩⟩
    · cases r1 with
      | tup hs ra => exact ⟨_, _, rfl, .inr ⟨ex_t A.low hs, q _ _ L H M .refl A p (.tup hs ra)⟩⟩
/-! ### any(t), t a tuple of ints -/
def rAnyT (K : PySem.W.Frag) : List V → Hp → VK → Prop := fun vs H Q => ∃ (a : Addr) (ns : List Int), vs = [V.ref a] ∧ SqT K H a (ns.map V.int) ∧ Q (.bl (ns.any fun n => n != 0)) H
theorem any_rangeI : ∀ bs : List Int, (List.range bs.length).any (fun i => (bs.getD i 0) != 0) = bs.any fun n => n != 0
  | [] => rfl
  | b :: bs => by
    rw [List.length_cons, List.range_succ_eq_map, List.any_cons, List.any_map, List.any_cons, ← any_rangeI bs]
    all_goals rfl
theorem ints_of_vals : ∀ {ns : List Int} {us : List Value}, Vals (ns.map V.int) us → IntsAre us ns := fun h => L2.ints_vals h
theorem cr_anyT (hc : X.calm = true) : CallR X (.builtin "any") (rAnyT X.K) := by
  intro pins s σ H vs us Q I r h
  obtain ⟨a, ns, rfl, hs, q⟩ := h
  obtain ⟨its, rv, hl, _⟩ := I.tuple hs
  rw [Vals.ref1 r]
  have hlt : a < s.heap.objs.size := by obtain ⟨o, e, _⟩ := hl; exact Heap.lt_size e
  have hlen := rv.length
  rw [List.length_map] at hlen
  refine call_any_walk (wpAny_pyIter_tuple (show s.heap.IsTuple a its.toArray from hl) ?_)
  refine ⟨_, _, _, _, _, _, fun i => (ns.getD i 0) != 0, rfl, Walks.tuple (A := X.A.in1) (I.ok.hd hc) _ a (Nat.ne_of_lt hlt) its.toArray, ⟨⟨_, Heap.get?_push_size _ rfl, rfl, rfl⟩, hl.push _⟩, fun i v s' Q' E' hv hq => ?_, fun h' tk hk => ?_⟩
  · have hv' : its[i]? = some v := by simpa using hv
    obtain ⟨n, hn⟩ : ∃ n, ns[i]? = some n := by
      have h1 : i < its.length := (List.getElem?_eq_some_iff.mp hv').1
      exact ⟨ns[i]'(by omega), List.getElem?_eq_getElem (by omega)⟩
    obtain ⟨u, hu, ru⟩ := rv.get (i := i) (x := .int n) (by rw [List.getElem?_map, hn]; rfl)
    rw [hv'] at hu
    cases hu
    obtain ⟨t, rfl⟩ := ru
    have hg : ns.getD i 0 = n := by rw [List.getD_eq_getElem?_getD, hn]; rfl
    simp only [hg] at hq
    exact PyProof.Rows.truthy_int hq
  · refine ⟨.bl _, H, I.kept fun b o eo => hk b o (fun hmem => ?_) (Heap.get?_push_of_some _ eo), ?_, q⟩
    · rcases List.mem_cons.mp hmem with e1 | hmem
      · exact absurd (e1 ▸ Heap.lt_size eo) (Nat.lt_irrefl _)
      · cases hmem
    · show Value.bool _ = Value.bool _
      rw [← any_rangeI, List.size_toArray, ← hlen]
end
end Pd

set_option Elab.async false
set_option linter.all false
set_option maxRecDepth 100000
set_option maxHeartbeats 1000000
namespace Pd
open PySem PySem.Spec PyProof.Rows L2

/-! ### zip of two sequences, each a list or a tuple -/
inductive Kd | l | t
def SqK (K : PySem.W.Frag) : Kd → Hp → Addr → List V → Prop
  | .l => SqL K
  | .t => SqT K
def IterK : Kd → Heap → Addr → Addr → Nat → Prop
  | .l => fun h it a i => h.IsListIter it a i
  | .t => fun h it a i => h.IsTupleIter it a i
def SeqAtK : Kd → Heap → Addr → Array Value → Prop
  | .l => fun h a items => h.IsList a items
  | .t => fun h a items => h.IsTuple a items
def itObj : Kd → Addr → Obj
  | .l, a => { cls := .type "list_iterator", data := .fields #[.ref a, .int 0 0] }
  | .t, a => { cls := .type "tuple_iterator", data := .fields #[.ref a, .int 0 0] }
theorem drawsK (k : Kd) {prog : Program} {w : World} {A : Around} (hh : A.handled = none) (it l : Addr) (hne : l ≠ it) (items : Array Value) :
    Draws prog w A it [it, l] items.size (fun i v => items[i]? = some v) (fun i h => IterK k h it l i ∧ SeqAtK k h l items) := by
  cases k with
  | l => exact Draws.list hh it l hne items
  | t => exact Draws.tuple hh it l hne items
theorem beginsK (k : Kd) (a : Addr) (items : Array Value) : Begins (.ref a) (itObj k a) fun h => SeqAtK k h a items := by
  cases k with
  | l => exact begins_list a items
  | t => exact begins_tuple a items
theorem iterK_at {k : Kd} {h h' : Heap} {it a : Addr} {i : Nat} (x : IterK k h it a i) (hk : ∀ o, h.get? it = some o → h'.get? it = some o) : IterK k h' it a i := by
  cases k with
  | l => exact Heap.IsListIter.at x hk
  | t => exact Heap.IsTupleIter.at x hk
theorem iterK_obj {k : Kd} {h : Heap} {it a : Addr} {i : Nat} (x : IterK k h it a i) : ∃ o, h.get? it = some o ∧ ∀ v, o.data ≠ .cell v := by
  cases k with
  | l => obtain ⟨o, e, _, d⟩ := x; exact ⟨o, e, fun v z => by rw [d] at z; cases z⟩
  | t => obtain ⟨o, e, _, d⟩ := x; exact ⟨o, e, fun v z => by rw [d] at z; cases z⟩
theorem iterK_new {k : Kd} {h : Heap} {it a : Addr} (e : h.get? it = some (itObj k a)) : IterK k h it a 0 := by
  cases k with
  | l => exact ⟨_, e, rfl, rfl⟩
  | t => exact ⟨_, e, rfl, rfl⟩
theorem sqK_at {X : Cx} {pins : List (Addr × Obj)} {σ : L2.St} {H : Hp} {s : Shared} {k : Kd} {a : Addr} {xs : List V} (I : Inv X pins σ H s) (h : SqK X.K k H a xs) : ∃ its : List Value, Vals xs its ∧ SeqAtK k s.heap a its.toArray ∧ a < s.heap.objs.size := by
  cases k with
  | l =>
    obtain ⟨its, r, p, _⟩ := I.list h
    exact ⟨its, r, p.isList, p.lt⟩
  | t =>
    obtain ⟨its, r, p, _⟩ := I.tuple h
    exact ⟨its, r, p, by obtain ⟨o, e, _⟩ := p; exact Heap.lt_size e⟩
theorem sqK_inj {X : Cx} {pins : List (Addr × Obj)} {σ : L2.St} {H : Hp} {s : Shared} {k : Kd} {a : Addr} {xs ys : List V} (I : Inv X pins σ H s) (h : SqK X.K k H a xs) (h' : SqK X.K k H a ys) : xs = ys := by
  cases k with
  | l => exact I.list_inj h h'
  | t => exact I.tuple_inj h h'
def Itz2 (K : PySem.W.Frag) (ka kb : Kd) (a b : Addr) : It :=
  ⟨fun i H => ∃ (xs ys : List V) (x y : V), SqK K ka H a xs ∧ SqK K kb H b ys ∧ xs[i]? = some x ∧ ys[i]? = some y,
    fun i H v H' => ∃ T x y, v = .ref T ∧ H T = none ∧ H' = upd H T (.tup [x, y]) ∧ (∀ xs, SqK K ka H a xs → xs[i]? = some x) ∧ ∀ ys, SqK K kb H b ys → ys[i]? = some y,
    fun i H => ∃ xs ys : List V, SqK K ka H a xs ∧ SqK K kb H b ys ∧ i = min xs.length ys.length⟩
theorem zsep {z TI TO i1 i2 a b : Addr} (D : ZipApart z TI TO i1 i2 a b) : ZipSep2 z TI TO i1 i2 [i1, a] [i2, b] where
  TIz := D.TIz
  TOz := D.TOz
  TITO := D.TITO
  TIi1 := D.TIi1
  mem1 := by simp
  zf1 := by simp; exact ⟨fun e => D.i1z e.symm, fun e => D.l1z e.symm⟩
  Tf1 := by simp; exact ⟨D.TOi1, fun e => D.l1TO e.symm⟩
  TIi2 := D.TIi2
  mem2 := by simp
  zf2 := by simp; exact ⟨fun e => D.i2z e.symm, fun e => D.l2z e.symm⟩
  Tf2 := by simp; exact ⟨D.TOi2, fun e => D.l2TO e.symm⟩
  sep1_2 := by simp; exact ⟨D.i12, fun e => D.l2i1 e.symm⟩
  sep2_1 := by simp; exact ⟨fun e => D.i12 e.symm, fun e => D.l1i2 e.symm⟩
theorem turn_z2 {P : Program} {w : World} {K : PySem.W.Frag} {elts : List Expr} {kk : Nat} {tpos : Pos} (ka kb : Kd) {a b z TI TO i1 i2 : Addr} (D : ZipApart z TI TO i1 i2 a b) :
    Turn P w K (.Tuple elts kk tpos) (Itz2 K ka kb a b) [z, TI, TO, i1, i2] z (fun i h => IsZip h z TI TO .none ∧ IsTupOf2 h TI (.ref i1) (.ref i2) ∧ (∃ x y, IsTupOf2 h TO x y) ∧ IterK ka h i1 a i ∧ IterK kb h i2 b i) where
  mem := by simp
  obj := fun i h st c hc => by
    obtain ⟨hz, hTI, ⟨x, y, hTO⟩, h1, h2⟩ := st
    have e' : c = z ∨ c = TI ∨ c = TO ∨ c = i1 ∨ c = i2 := by simpa using hc
    rcases e' with q | q | q | q | q
    · rw [q]; exact ⟨_, hz, fun v q => nomatch q⟩
    · rw [q]; exact ⟨_, hTI, fun v q => nomatch q⟩
    · rw [q]; exact ⟨_, hTO, fun v q => nomatch q⟩
    · rw [q]; exact iterK_obj h1
    · rw [q]; exact iterK_obj h2
  keep := fun i h h' st k => by
    obtain ⟨hz, hTI, ⟨x, y, hTO⟩, h1, h2⟩ := st
    exact ⟨k z (by simp) _ hz, k TI (by simp) _ hTI, ⟨x, y, k TO (by simp) _ hTO⟩, iterK_at h1 fun o q => k i1 (by simp) o q, iterK_at h2 fun o q => k i2 (by simp) o q⟩
  item := by
    intro X hP hw hK hc i pins s σ H E I hf st hg
    subst hP hw hK
    obtain ⟨hz, hTI, ⟨x0, y0, hTO⟩, h1, h2⟩ := st
    obtain ⟨xs, ys, x, y, hqx, hqy, hx, hy⟩ := hg
    obtain ⟨its, rv, p, _⟩ := sqK_at I hqx
    obtain ⟨its2, rv2, p2, _⟩ := sqK_at I hqy
    obtain ⟨u, hu, ru⟩ := rv.get hx
    obtain ⟨u2, hu2, ru2⟩ := rv2.get hy
    have hzl : z < s.heap.objs.size := Heap.lt_size hz
    have hi1 : i < its.toArray.size := by simpa using (List.getElem?_eq_some_iff.mp hu).1
    have hi2 : i < its2.toArray.size := by simpa using (List.getElem?_eq_some_iff.mp hu2).1
    refine wpAny_pyNext_zipD2_item (zsep D) (drawsK ka (A := X.A.in1) (I.ok.hd hc) i1 a D.l1i1 its.toArray) (drawsK kb (A := X.A.in1) (I.ok.hd hc) i2 b D.l2i2 its2.toArray) hz hTI hTO ⟨h1, p⟩ ⟨h2, p2⟩ hi1 hi2 fun x1 x2 h' tk g1 g2 z' TO' st1 st2 hT hsz hk => ?_
    have e1 : x1 = u := by
      have g1' : its[i]? = some x1 := by simpa using g1
      rw [hu] at g1'; exact (Option.some.inj g1').symm
    have e2 : x2 = u2 := by
      have g2' : its2[i]? = some x2 := by simpa using g2
      rw [hu2] at g2'; exact (Option.some.inj g2').symm
    subst e1; subst e2
    refine ⟨_, rfl, wpAny_letOwnedTupleGo_zip (s := { s with heap := h', toks := tk }) z' fun h'' z'' sb => ?_⟩
    have hT2 : h''.get? s.heap.objs.size = some { cls := .type "tuple", data := .seq #[x1, x2] } := (sb.2 _ (Nat.ne_of_gt hzl)).trans hT
    have new : ObjOk X.prog X.w (upd H s.heap.objs.size (.tup [x, y])) h'' s.heap.objs.size (.tup [x, y]) :=
      ⟨by show 2 ≤ sizeLine; decide, [x1, x2], .cons ru (.cons ru2 .nil), ⟨_, hT2, rfl, _, rfl⟩⟩
    have I1 : Inv X pins σ (upd H s.heap.objs.size (.tup [x, y])) { s with heap := h'', toks := tk } :=
      I.turnedNew (t' := tk) (ch := [z, TI, TO, i1, i2]) (fun c o hb q => (sb.2 c (fun q' => hb (by simp [q']))).trans (hk c o (fun q' => hb (by simp [q'])) (fun q' => hb (by simp [q'])) (fun q' => hb (by simp [q'])) (fun q' => hb (by simp [q'])) q)) hf (Nat.le_refl _) new
    refine ⟨.ref s.heap.objs.size, _, I1, rfl, ⟨_, x, y, rfl, I.hok.fresh (Nat.le_refl _), rfl, fun l hl => by rw [sqK_inj I hl hqx]; exact hx, fun l hl => by rw [sqK_inj I hl hqy]; exact hy⟩, ⟨z'', ?_, ⟨x1, x2, ?_⟩, ?_, ?_⟩, fun c hcm => ?_⟩
    · exact (sb.2 _ D.TIz).trans (hk _ _ D.TIz D.TITO D.TIi1 D.TIi2 hTI)
    · exact (sb.2 _ D.TOz).trans TO'
    · exact iterK_at st1.1 fun o q => (sb.2 _ D.i1z).trans q
    · exact iterK_at st2.1 fun o q => (sb.2 _ D.i2z).trans q
    · have hlt : c < s.heap.objs.size := by
        have e' : c = z ∨ c = TI ∨ c = TO ∨ c = i1 ∨ c = i2 := by simpa using hcm
        rcases e' with q | q | q | q | q
        · rw [q]; exact hzl
        · rw [q]; exact Heap.lt_size hTI
        · rw [q]; exact Heap.lt_size hTO
        · rw [q]; obtain ⟨_, e1, _⟩ := iterK_obj h1; exact Heap.lt_size e1
        · rw [q]; obtain ⟨_, e2, _⟩ := iterK_obj h2; exact Heap.lt_size e2
      rw [upd_ne (Nat.ne_of_lt hlt)]
      exact (hf c hcm).1
  done := by
    intro X hP hw hK hc i pins s σ H E I hf st hg
    subst hP hw hK
    obtain ⟨hz, hTI, ⟨x0, y0, hTO⟩, h1, h2⟩ := st
    obtain ⟨xs, ys, hqx, hqy, hend⟩ := hg
    obtain ⟨its, rv, p, _⟩ := sqK_at I hqx
    obtain ⟨its2, rv2, p2, _⟩ := sqK_at I hqy
    have l1 := rv.length
    have l2 := rv2.length
    refine wpAny_pyNext_zipD2_end (zsep D) (drawsK ka (A := X.A.in1) (I.ok.hd hc) i1 a D.l1i1 its.toArray) (drawsK kb (A := X.A.in1) (I.ok.hd hc) i2 b D.l2i2 its2.toArray) hz hTI hTO ⟨h1, p⟩ ⟨h2, p2⟩ (by simp; omega) (by simp; omega) (by simp; omega) fun h' tk hk => ?_
    exact ⟨rfl, I.turnedL (t' := tk) (ch := [z, TI, TO, i1, i2]) (fun c o hb q => hk c o (fun q' => hb (by simp [q'])) (fun q' => hb (by simp [q'])) (fun q' => hb (by simp [q'])) (fun q' => hb (by simp [q'])) q) hf⟩
  self := fun A i s Q E st h => wpAny_pyIter_zip st.1 h
def iZip2 (K : PySem.W.Frag) (ta : TA) : TI := fun σ H R => ta σ H fun vs H1 => ∃ ka kb a b xs ys, vs = [.ref a, .ref b] ∧ SqK K ka H1 a xs ∧ SqK K kb H1 b ys ∧ R (Itz2 K ka kb a b) H1
section
variable {X : Cx} {e e2 : Expr} {pos p tpos : Pos} {elts : List Expr} {kk : Nat} {tl : DA}
theorem pi_zip2 {ta : TA} (hg : Gl X "zip") (hm : X.mg "zip" = none) (ha : PA X [e, e2] ta)
    (hs : starEach [e, e2] X.env = (false, eval e X.env) :: starEach [e2] X.env := by rfl) (hpl : (backTo pos (starEach [e2] X.env)).any (·.1) = false := by rfl) :
    PI X (.Tuple elts kk tpos) (.Call (.Name "zip" p) [e, e2] [] pos) (iZip2 X.K ta) := by
  refine ⟨fun pins s σ H R I h => ?_⟩
  refine Call_ (ld_blt I hg hm PyProof.Rows.boot_zip (PyProof.Rows.callWith_type1 (thn (ha.run pos pins s σ H _ I h) fun us s1 ⟨vs, H1, I1, r1, q1⟩ => ?_) hs hpl))
  obtain ⟨ka, kb, a, b, xs, ys, ex, hqx, hqy, q⟩ := q1
  subst ex
  cases r1 with
  | cons r rr =>
    cases rr with
    | cons r' rr =>
      cases rr
      cases r
      cases r'
      have fresh5 : ∀ c, c ∈ [s1.heap.objs.size + 4, s1.heap.objs.size + 2, s1.heap.objs.size + 3, s1.heap.objs.size, s1.heap.objs.size + 1] → FpOk X pins H1 c := fun c hcm => by
        have e' : c = s1.heap.objs.size + 4 ∨ c = s1.heap.objs.size + 2 ∨ c = s1.heap.objs.size + 3 ∨ c = s1.heap.objs.size ∨ c = s1.heap.objs.size + 1 := by simpa using hcm
        have hle : s1.heap.objs.size ≤ c := by
          rcases e' with z | z | z | z | z
          · rw [z]; exact Nat.le_add_right _ _
          · rw [z]; exact Nat.le_add_right _ _
          · rw [z]; exact Nat.le_add_right _ _
          · rw [z]; exact Nat.le_refl _
          · rw [z]; exact Nat.le_add_right _ _
        exact I1.fpOk hle (I1.hok.fresh hle)
      obtain ⟨its, rv, p1, l1⟩ := sqK_at I1 hqx
      obtain ⟨its2, rv2, p2, l2⟩ := sqK_at I1 hqy
      refine zip_begins2 (beginsK ka a its.toArray) (beginsK kb b its2.toArray) p1 p2 fun h' hz hTI hTO h1 h2 hsz hk => wpAny_pyIter_zip hz ?_
      have I2 : Inv X pins σ H1 { s1 with heap := h' } := I1.kept (t' := s1.toks) hk
      exact ⟨s1.heap.objs.size + 4, [s1.heap.objs.size + 4, s1.heap.objs.size + 2, s1.heap.objs.size + 3, s1.heap.objs.size, s1.heap.objs.size + 1], _, _, H1, rfl, I2, turn_z2 ka kb (PySem.W.ktu_apart s1.heap.objs.size a b l1 l2), ⟨hz, hTI, ⟨_, _, hTO⟩, iterK_new h1, iterK_new h2⟩, fresh5, q⟩
/-- the pairs -/
def pairs : List D → List D → List D
  | x :: xs, y :: ys => .tup [x, y] :: pairs xs ys
  | _, _ => []
theorem pairs_get : ∀ (xs ys : List D) (i : Nat) (x y : D), xs[i]? = some x → ys[i]? = some y → (pairs xs ys)[i]? = some (.tup [x, y])
  | x :: xs, y :: ys, 0, a, b, h1, h2 => by simp at h1 h2; subst h1; subst h2; rfl
  | x :: xs, y :: ys, i + 1, a, b, h1, h2 => pairs_get xs ys i a b h1 h2
  | [], _, _, _, _, h1, _ => by simp at h1
  | _ :: _, [], _, _, _, _, h2 => by simp at h2
theorem pairs_len : ∀ (xs ys : List D), (pairs xs ys).length = min xs.length ys.length
  | [], ys => by simp [pairs]
  | _ :: _, [] => by simp [pairs]
  | x :: xs, y :: ys => by
    show (pairs xs ys).length + 1 = _
    rw [pairs_len xs ys, List.length_cons, List.length_cons]
    omega
def iZp (tl : DA) : DA := fun ρ M P => tl ρ M fun ds M1 => ∃ d e xs ys, ds = [d, e] ∧ isSeq d xs ∧ isSeq e ys ∧ P (pairs xs ys) M1
theorem rp_seq {K : PySem.W.Frag} {as : List Addr} {L : Hp} {v : V} {d : D} {ds : List D} (r : Rp K as L v d) (h : isSeq d ds) : ∃ k a xs, v = .ref a ∧ SqK K k L a xs ∧ RpA K as L xs ds := by
  rcases h with rfl | rfl
  · cases r with | lst hs ra => exact ⟨.l, _, _, rfl, hs, ra⟩
  · cases r with | tup hs ra => exact ⟨.t, _, _, rfl, hs, ra⟩
theorem ex_k {K : PySem.W.Frag} {k : Kd} {H H' : Hp} {a : Addr} {xs : List V} (e : Ex H H') (h : SqK K k H a xs) : SqK K k H' a xs := by
  cases k with
  | l => exact ex_l e h
  | t => exact ex_t e h
theorem walks_zip {K : PySem.W.Frag} {as : List Addr} {L0 : Hp} {ka kb : Kd} {a b : Addr} {xs ys : List V} {ds es : List D} (h1 : SqK K ka L0 a xs) (r1 : RpA K as L0 xs ds) (h2 : SqK K kb L0 b ys) (r2 : RpA K as L0 ys es) : Walks K (Itz2 K ka kb a b) as L0 (pairs ds es) := by
  intro L H M e A
  have g1 := ex_k (e.trans A.low) h1
  have g2 := ex_k (e.trans A.low) h2
  refine ⟨fun i hi => ?_, xs, ys, g1, g2, by rw [pairs_len, r1.length, r2.length]⟩
  rw [pairs_len] at hi
  have i1 : i < xs.length := by rw [r1.length]; omega
  have i2 : i < ys.length := by rw [r2.length]; omega
  refine ⟨⟨xs, ys, _, _, g1, g2, List.getElem?_eq_getElem i1, List.getElem?_eq_getElem i2⟩, fun v H' y => ?_⟩
  obtain ⟨T, x, y, rfl, hT, rfl, f1, f2⟩ := y
  obtain ⟨d1, q1, w1⟩ := r1.getV (f1 xs g1)
  obtain ⟨d2, q2, w2⟩ := r2.getV (f2 ys g2)
  have lT := lowfree A hT
  exact ⟨_, upd L T (.tup [x, y]), pairs_get ds es i d1 d2 q1 q2, Step.know A hT, A.know hT, .tup (.inl (.inl upd_same)) (.cons (w1.mono (e.trans (Ex.new lT)) (Pre.refl _)) (.cons (w2.mono (e.trans (Ex.new lT)) (Pre.refl _)) .nil))⟩
theorem pdi_zip (hg : Gl X "zip") (hm : X.mg "zip" = none) (ha : PDA X [e, e2] tl)
    (hs : starEach [e, e2] X.env = (false, eval e X.env) :: starEach [e2] X.env := by rfl) (hpl : (backTo pos (starEach [e2] X.env)).any (·.1) = false := by rfl) : PDI X (.Tuple elts kk tpos) (.Call (.Name "zip" p) [e, e2] [] pos) (iZp tl) := by
  obtain ⟨u, pa, s⟩ := ha.ex
  refine ⟨_, pi_zip2 hg hm pa hs hpl, ?_⟩
  intro as σ ρ L H M P R hE A h q
  refine s as σ ρ L H M _ _ hE A h fun vs ds L1 H1 M1 s1 A1 h1 r1 => ?_
  obtain ⟨d, f, xs, ys, rfl, hd, hf, p⟩ := h1
  cases r1 with
  | cons ra rb =>
    cases rb with
    | cons rb rc =>
      cases rc
      obtain ⟨ka, a, xv, rfl, g1, w1⟩ := rp_seq ra hd
      obtain ⟨kb, b, yv, rfl, g2, w2⟩ := rp_seq rb hf
      exact ⟨ka, kb, a, b, xv, yv, rfl, ex_k A1.low g1, ex_k A1.low g2, q _ _ L1 H1 M1 s1 A1 p (walks_zip g1 w1 g2 w2)⟩
end
def oAnyT : DC := fun xs M P => ∃ ns : List Int, xs = [.tup (ns.map D.int)] ∧ P (.bl (ns.any fun n => n != 0)) M
theorem sc_anyT {K : PySem.W.Frag} : SimC K (rAnyT K) oAnyT := by
  intro as L H M xs ds P Q A r ⟨ns, h, p⟩ q
  subst h
  cases r with
  | cons r1 r2 =>
    cases r2
    cases r1 with
    | tup hs ra =>
      have e := ra.ints
      subst e
      exact ⟨_, ns, rfl, ex_t A.low hs, q _ _ L H M .refl A p (.bl _)⟩
end Pd

set_option Elab.async false
set_option linter.all false
set_option maxRecDepth 100000
set_option maxHeartbeats 1000000
namespace Pd
open PySem PySem.Spec PyProof.Rows L2

theorem cmpback {P : Value → Shared → Prop} {z : V} {v : Value} {s' : Shared} (r : RelV z v) (h : P v s') : PySem.W.CmpBack P v s' := by
  cases z with
  | non => cases (show v = Value.none from r); exact h
  | bl b => cases (show v = Value.bool b from r); exact h
  | int i => obtain ⟨t, e⟩ := (show ∃ t, v = Value.int i t from r); cases e; exact h
  | str i => obtain ⟨t, e⟩ := (show ∃ t, v = Value.str i t from r); cases e; exact h
  | byt i => obtain ⟨t, e⟩ := (show ∃ t, v = Value.bytes i t from r); cases e; exact h
  | flt i => obtain ⟨t, e⟩ := (show ∃ t, v = Value.float i t from r); cases e; exact h
  | ref a => cases (show v = Value.ref a from r); exact h
  | ty n => cases (show v = Value.type n from r); exact h
section
variable {X : Cx} {k n : Nat} {C g : Addr} {fd : FuncData} {ps : List Str} {W : DC}
/-- a def called by the machine itself with two values -/
theorem run2 (F : FnOk X.prog X.w X.K X.mg X.base CX0 k g fd ps (spD n W X.K)) (hb : Binds X.K fd ps []) (hr : Room k X.A) {pins : List (Addr × Obj)} {σ : L2.St} {H : Hp} {s : Shared} {us : List Value} {vs : List V} {Q : VK} (I : Inv X pins σ H s) (r : Vals vs us) (h : spD n W X.K vs H Q E0) :
    wpAny (model X.prog X.w) X.A (call (.ref g) us) (EP X pins σ Q) X.xe s :=
  wpAny_call (run_fnR (F.raw hb .nil) hr pass0 I r (by rw [List.append_nil]; exact h))
/-! ### operators that the class defines -/
def rOwnI (K : PySem.W.Frag) (C : Addr) (n : Nat) (W : DC) : R2 := fun x y H Q => ∃ a dx fs b dy gs, x = .ref a ∧ y = .ref b ∧ H a = some (.ins C dx fs) ∧ H b = some (.ins C dy gs) ∧ spD n W K [x, y] H Q E0
theorem op_ownI {op : Operator} (hc : PySem.W.selfFirst X.K C = true) (hs : PySem.W.findIn X.K (.ref C) (PySem.dunder op.info.2) = some (some (.ref g))) (hf : PySem.W.isFn X.K (.ref g) = true)
    (F : FnOk X.prog X.w X.K X.mg X.base CX0 k g fd ps (spD n W X.K)) (hb : Binds X.K fd ps []) (hr : Room k X.A) : OpR X (binaryOp op) (rOwnI X.K C n W) := by
  intro pins s σ H x y v u Q I rx ry h
  obtain ⟨a, dx, fs, b, dy, gs, rfl, rfl, ha, hb', q⟩ := h
  cases (show v = Value.ref a from rx)
  cases (show u = Value.ref b from ry)
  obtain ⟨mA, O, _⟩ := ins_get I.hok ha
  obtain ⟨od, J, _⟩ := O.look
  obtain ⟨mB, O', _⟩ := ins_get I.hok hb'
  obtain ⟨od', J', _⟩ := O'.look
  obtain ⟨m, hF⟩ := I.fr
  refine PySem.W.binop_K hF I.ok.mod.kin J J'.type hc hs hf ?_
  refine wpAny_mono (run2 (us := [.ref a, .ref b]) (vs := [.ref a, .ref b]) F hb hr I (.cons rfl (.cons rfl .nil)) q) (fun w s' z => ?_) fun _ _ x => x
  obtain ⟨z', H', I', rz, qz⟩ := z
  exact cmpback rz ⟨z', H', I', rz, qz⟩
def oOwnI (C : Addr) (W : DC) : D2 := fun x y M P => ∃ fs gs, x = .ins C fs ∧ y = .ins C gs ∧ W [x, y] M P
theorem sp_of {K : PySem.W.Frag} {as : List Addr} {L H : Hp} {M : Ms} {vs : List V} {ds : List D} {P : D → Ms → Prop} {Q : VK} {E : XK} (A : At K as M L H) (r : RpA K as L vs ds) (hn : ds.length = n) (h : W ds M P)
    (q : ∀ v z L' H' M', Step as L H as L' H' → At K as M' L' H' → P z M' → Rp K as L' v z → Q v H') : spD n W K vs H Q E := ⟨by rw [r.length]; exact hn, as, M, L, ds, P, r, A, h, q⟩
theorem sr_ownI {K : PySem.W.Frag} : SimR K (rOwnI K C 2 W) (oOwnI C W) := by
  intro as L H M x y d e P Q A r1 r2 ⟨fs, gs, h1, h2, p⟩ q
  subst h1; subst h2
  have r1' := r1
  have r2' := r2
  cases r1 with
  | ins g1 _ =>
    cases r2 with
    | ins g2 _ => exact ⟨_, _, _, _, _, _, rfl, rfl, A.low _ _ g1, A.low _ _ g2, sp_of A (.cons r1' (.cons r2' .nil)) rfl p q⟩
/-- the other operand an int -/
def rOwnN (K : PySem.W.Frag) (C : Addr) (n : Nat) (W : DC) : R2 := fun x y H Q => ∃ a dx fs i, x = .ref a ∧ y = .int i ∧ H a = some (.ins C dx fs) ∧ spD n W K [x, y] H Q E0
theorem op_ownN {op : Operator} {fo ro rc : Option Value} (hc : PySem.W.selfFirst X.K C = true) (hs : PySem.W.findIn X.K (.ref C) (PySem.dunder op.info.2) = some (some (.ref g))) (hf : PySem.W.isFn X.K (.ref g) = true)
    (hr' : PySem.W.findIn X.K (.ref C) (PySem.dunderR op.info.2) = some rc) (hp : rc = none ∨ ∃ g : Addr, rc = some (.ref g)) (h1 : PySem.W.findIn X.K (.type "int") (PySem.dunder op.info.2) = some fo) (h2 : PySem.W.findIn X.K (.type "int") (PySem.dunderR op.info.2) = some ro) (hsub : PySem.W.subIn X.K (.type "int") (.ref C) = some false)
    (F : FnOk X.prog X.w X.K X.mg X.base CX0 k g fd ps (spD n W X.K)) (hb : Binds X.K fd ps []) (hr : Room k X.A) : OpR X (binaryOp op) (rOwnN X.K C n W) := by
  intro pins s σ H x y v u Q I rx ry h
  obtain ⟨a, dx, fs, i, rfl, rfl, ha, q⟩ := h
  cases (show v = Value.ref a from rx)
  obtain ⟨t, rfl⟩ := (show ∃ t, u = Value.int i t from ry)
  obtain ⟨mA, O, _⟩ := ins_get I.hok ha
  obtain ⟨od, J, _⟩ := O.look
  obtain ⟨m, hF⟩ := I.fr
  refine PySem.W.ksp_binT (T := "int") hF I.ok.mod.kin J rfl hc hs hf hr' hp h1 h2 hsub ?_
  refine wpAny_mono (run2 (us := [.ref a, .int i t]) (vs := [.ref a, .int i]) F hb hr I (.cons rfl (.cons ⟨t, rfl⟩ .nil)) q) (fun w s' z => ?_) fun _ _ x => x
  obtain ⟨z', H', I', rz, qz⟩ := z
  exact cmpback rz ⟨z', H', I', rz, qz⟩
def oOwnN (C : Addr) (W : DC) : D2 := fun x y M P => ∃ fs i, x = .ins C fs ∧ y = .int i ∧ W [x, y] M P
theorem sr_ownN {K : PySem.W.Frag} : SimR K (rOwnN K C 2 W) (oOwnN C W) := by
  intro as L H M x y d e P Q A r1 r2 ⟨fs, i, h1, h2, p⟩ q
  subst h1; subst h2
  have r1' := r1
  have r2' := r2
  cases r2
  cases r1 with
  | ins g1 _ => exact ⟨_, _, _, _, rfl, rfl, A.low _ _ g1, sp_of A (.cons r1' (.cons r2' .nil)) rfl p q⟩
/-- - x -/
def rOwnU (K : PySem.W.Frag) (C : Addr) (n : Nat) (W : DC) : V → Hp → VK → Prop := fun x H Q => ∃ a dx fs, x = .ref a ∧ H a = some (.ins C dx fs) ∧ spD n W K [x] H Q E0
theorem un_own (hs : PySem.W.findIn X.K (.ref C) "__neg__" = some (some (.ref g))) (hf : PySem.W.isFn X.K (.ref g) = true)
    (F : FnOk X.prog X.w X.K X.mg X.base CX0 k g fd ps (spD n W X.K)) (hb : Binds X.K fd ps []) (hr : Room k X.A) : UnR X (unaryOp .USub) (rOwnU X.K C n W) := by
  intro pins s σ H x v Q I rx h
  obtain ⟨a, dx, fs, rfl, ha, q⟩ := h
  cases (show v = Value.ref a from rx)
  obtain ⟨mA, O, _⟩ := ins_get I.hok ha
  obtain ⟨od, J, _⟩ := O.look
  obtain ⟨m, hF⟩ := I.fr
  exact PySem.W.ksp_neg hF I.ok.mod.kin J hs hf (run2 (us := [.ref a]) (vs := [.ref a]) F hb hr I (.cons rfl .nil) q)
def oOwnU (C : Addr) (W : DC) : D1 := fun x M P => ∃ fs, x = .ins C fs ∧ W [x] M P
theorem su_own {K : PySem.W.Frag} : SimU K (rOwnU K C 1 W) (oOwnU C W) := by
  intro as L H M x d P Q A r1 ⟨fs, h1, p⟩ q
  subst h1
  have r1' := r1
  cases r1 with
  | ins g1 _ => exact ⟨_, _, _, rfl, A.low _ _ g1, sp_of A (.cons r1' .nil) rfl p q⟩
/-! ### == and != by the class's own __eq__ -/
/-- the type of a value that == may meet -/
inductive TyE (K : PySem.W.Frag) (H : Hp) : V → Value → Prop
  | non : TyE K H .non (.type "NoneType")
  | bl (b : Bool) : TyE K H (.bl b) (.type "bool")
  | int (i : Int) : TyE K H (.int i) (.type "int")
  | str (x : Str) : TyE K H (.str x) (.type "str")
  | lst {a : Addr} {xs : List V} : SqL K H a xs → TyE K H (.ref a) (.type "list")
  | tup {a : Addr} {xs : List V} : SqT K H a xs → TyE K H (.ref a) (.type "tuple")
  | ins {a C dx : Addr} {fs : List (Str × V)} : H a = some (.ins C dx fs) → TyE K H (.ref a) (.ref C)
theorem TyE.looks {pins : List (Addr × Obj)} {σ : L2.St} {H : Hp} {s : Shared} {v : V} {u : Value} {t : Value} (I : Inv X pins σ H s) (h : TyE X.K H v t) (ru : RelV v u) : PySem.W.Looks (model X.prog X.w) s.heap (typeOf u) t := by
  cases h with
  | non => cases (show u = Value.none from ru); exact .now
  | bl b => cases (show u = Value.bool b from ru); exact .now
  | int b => obtain ⟨t, rfl⟩ := (show ∃ t, u = Value.int b t from ru); exact .now
  | str b => obtain ⟨t, rfl⟩ := (show ∃ t, u = Value.str b t from ru); exact .now
  | lst hs =>
    rename_i a xs
    cases (show u = Value.ref a from ru)
    obtain ⟨its, _, ⟨o, n, e, hc, _⟩, _⟩ := I.list hs
    exact hc ▸ (PySem.W.Looks.ld e).andThen .now
  | tup hs =>
    rename_i a xs
    cases (show u = Value.ref a from ru)
    obtain ⟨its, _, ⟨o, e, hc, _⟩, _⟩ := I.tuple hs
    exact hc ▸ (PySem.W.Looks.ld e).andThen .now
  | ins hs =>
    rename_i a _ _ _
    cases (show u = Value.ref a from ru)
    obtain ⟨mB, O', _⟩ := ins_get I.hok hs
    obtain ⟨od', J', _⟩ := O'.look
    exact J'.type
def rOwnE (K : PySem.W.Frag) (C : Addr) (n : Nat) (W : DC) : R2 := fun x y H Q => ∃ a dx fs t, x = .ref a ∧ H a = some (.ins C dx fs) ∧ TyE K H y t ∧ PySem.W.notFirst K C t = true ∧ spD n W K [x, y] H Q E0
theorem op_ownE (hs : PySem.W.findIn X.K (.ref C) "__eq__" = some (some (.ref g))) (hf : PySem.W.isFn X.K (.ref g) = true)
    (F : FnOk X.prog X.w X.K X.mg X.base CX0 k g fd ps (spD n W X.K)) (hb : Binds X.K fd ps []) (hr : Room k X.A) : OpR X (compareOp .Eq) (rOwnE X.K C n W) := by
  intro pins s σ H x y v u Q I rx ry h
  obtain ⟨a, dx, fs, t, rfl, ha, ht, hn, q⟩ := h
  cases (show v = Value.ref a from rx)
  obtain ⟨mA, O, _⟩ := ins_get I.hok ha
  obtain ⟨od, J, _⟩ := O.look
  obtain ⟨m, hF⟩ := I.fr
  show wpAny _ _ (richCompare .Eq _ _) _ _ _
  refine PySem.W.cmp_K (op := .Eq) (tb := t) hr.units0 hF I.ok.mod.kin J (ht.looks I ry) hn hs hf ?_
  refine wpAny_mono (run2 (us := [.ref a, u]) (vs := [.ref a, y]) F hb hr I (.cons rfl (.cons ry .nil)) q) (fun w s' z => ?_) fun _ _ x => x
  obtain ⟨z', H', I', rz, qz⟩ := z
  exact cmpback rz ⟨z', H', I', rz, qz⟩
theorem dtyE {K : PySem.W.Frag} {as : List Addr} {M : Ms} {L H : Hp} {v : V} {d : D} {t : Value} (A : At K as M L H) (r : Rp K as L v d) (h : DTy K d t) : TyE K H v t := by
  cases h with
  | non => cases r; exact .non
  | bl b => cases r; exact .bl b
  | int b => cases r; exact .int b
  | str b => cases r; exact .str b
  | lst ds => cases r with | lst hs _ => exact .lst (ex_l A.low hs)
  | tup ds => cases r with | tup hs _ => exact .tup (ex_t A.low hs)
  | ins h => cases r with | ins hs _ => exact .ins (A.low _ _ hs)
def oOwnE (K : PySem.W.Frag) (C : Addr) (W : DC) : D2 := fun x y M P => ∃ fs t, x = .ins C fs ∧ DTy K y t ∧ PySem.W.notFirst K C t = true ∧ W [x, y] M P
theorem sr_ownE {K : PySem.W.Frag} : SimR K (rOwnE K C 2 W) (oOwnE K C W) := by
  intro as L H M x y d e P Q A r1 r2 ⟨fs, t, h1, h2, h3, p⟩ q
  subst h1
  have r1' := r1
  cases r1 with
  | ins g1 _ => exact ⟨_, _, _, t, rfl, A.low _ _ g1, dtyE A r2 h2, h3, sp_of A (.cons r1' (.cons r2 .nil)) rfl p q⟩
end

/-! ### obj(e, ..), C.m(e, ..) of a staticmethod, C(e, ..) -/
section
variable {X : Cx} {k n : Nat} {C g : Addr} {fd : FuncData} {ps : List Str} {W : DC} {e fe o value : Expr} {es : List Expr} {t tv : DE} {tl : DA} {pos pos' p apos : Pos}
def dCallO (C : Addr) (n : Nat) (W : DC) (t : DE) (tl : DA) : DE := fun ρ M P => t ρ M fun x M1 => ∃ fs, x = .ins C fs ∧ tl ρ M1 fun ds M2 => ds.length + 1 = n ∧ W (x :: ds) M2 P
theorem pd_callO (hf : PD X fe t) (c : StX.CallO X.K C g) (F : FnOk X.prog X.w X.K X.mg X.base CX0 k g fd ps (spD n W X.K)) (hb : Binds X.K fd ps []) (hr : Room k X.A) (ha : PDA X (e :: es) tl)
    (ht : eval (.Call fe (e :: es) [] pos) X.env = (do callWith pos (← eval fe X.env) [] (backTo pos (starEach (e :: es) X.env)) (backToKw pos (keywordEach [] X.env))) := by rfl)
    (he : starEach (e :: es) X.env = (false, eval e X.env) :: starEach es X.env := by rfl) (hpl : (backTo pos (starEach es X.env)).any (·.1) = false := by rfl) : PD X (.Call fe (e :: es) [] pos) (dCallO C n W t tl) := by
  obtain ⟨u, pf, sf⟩ := hf.ex
  obtain ⟨ua, pa, sa⟩ := ha.ex
  refine ⟨_, StX.pe_callO pf c (F.raw hb .nil) hr (pass0 (X := X)) pa ht he hpl, ?_⟩
  intro as σ ρ L H M P Q hE A h q
  refine sf as σ ρ L H M _ _ hE A h fun v d L1 H1 M1 s1 A1 h1 r1 => ?_
  obtain ⟨fs, rfl, h1⟩ := h1
  have r0 := r1
  cases r1 with
  | ins g1 _ =>
    refine ⟨_, rfl, sa as σ ρ L1 H1 M1 _ _ (hE.mono s1.k s1.pre) A1 h1 fun vs ds L2 H2 M2 s2 A2 h2 r2 => ⟨.inr ⟨_, _, A2.low _ _ (s2.k _ _ g1)⟩, ?_⟩⟩
    have s12 := s1.trans A1 s2
    have q2 := sp_of (n := n) (W := W) (Q := Q) (E := E0) A2 (RpA.cons (r0.mono s2.k s2.pre) r2) (by rw [List.length_cons]; exact h2.1) h2.2 fun v z L3 H3 M3 s3 A3 h3 r3 => q v z L3 H3 M3 (s12.trans A2 s3) A3 h3 r3
    show spD n W X.K (V.ref _ :: vs ++ []) H2 Q E0
    rw [List.append_nil]
    exact q2
/-- C.m(e, ..), m a staticmethod whose def is at g -/
structure SMet (K : PySem.W.Frag) (C : Addr) (mc : Value) (m : Str) (p g : Addr) : Prop where
  rd : PySem.W.readsIn K C mc = true
  ga : PySem.W.specialIn K (.ref C) "__getattribute__" = some (some (.builtin "type.__getattribute__"))
  at_ : PySem.W.findCls K (.ref C) mc m = some (.get (.builtin "staticmethod.__get__") (.ref p) .none (.ref C))
  rc : ∃ rest, PySem.W.recIn K p "staticmethod" = some (.ref g :: rest)
  kp : PySem.W.keepIn K (.ref g) = true
def tSM (C : Addr) (sp : Sp) (ta : TE) (t : TA) : TE := fun σ H Q => ta σ H fun x H1 => x = .ref C ∧ t σ H1 fun vs H2 => sp vs H2 Q E0
theorem pe_smeth {m : Str} {mc : Value} {q : Addr} {sp : Sp} {ta : TE} {ta' : TA} {pl : Sem Bool} (he : PE X o ta) (c : SMet X.K C mc m q g) (F : FnOk X.prog X.w X.K X.mg X.base CX0 k g fd ps sp) (hb : Binds X.K fd ps []) (hr : Room k X.A) (ha : PA X (e :: es) ta')
    (hst : starEach (e :: es) X.env = (false, eval e X.env) :: starEach es X.env := by rfl) (hpl : (backTo pos (starEach es X.env)).any (·.1) = false := by rfl)
    (ht : eval (.Call (.Attribute o m apos) (e :: es) [] pos) X.env = (do
      let ov ← eval o X.env
      standAt apos.atName
      let (f, first) ← holding [ov] (getMethod ov m pl)
      callWith pos f first (backTo pos (starEach (e :: es) X.env)) (backToKw pos (keywordEach [] X.env))) := by rfl) :
    PE X (.Call (.Attribute o m apos) (e :: es) [] pos) (tSM C sp ta ta') := by
  refine ⟨fun pins s σ H Q I h => ?_⟩
  refine PySem.W.methodCall_KW (pl := pl) (thn (he.run pins s σ H _ I h) fun u s1 ⟨x, H1, I1, rx, ex, q⟩ => ?_) ht
  subst ex
  obtain rfl : u = Value.ref C := rx
  obtain ⟨rest, hp⟩ := c.rc
  refine PySem.W.method_cls I1.kIn c.ga (PySem.W.cls_bind I1.kIn c.rd c.at_ (wpAny_call (PySem.W.sm_get (s := { s1 with toks := s1.toks + 1 }) I1.kIn hp (PySem.W.handed_on rfl ?_))))
  have I2 := I1.tok (s1.toks + 1)
  refine PySem.W.callWith_K (first := []) (h₀ := X.base) I2.ok.mod.kin c.kp (thn (ha.run pos pins _ σ H1 _ I2 q) fun us s2 ⟨vs, H2, I3, r, q2⟩ => ⟨I3.kIn, ?_⟩) hst hpl
  exact run_fn (us := us) (vs := vs) F hr hb .nil (pass0 (X := X)) I3 r (by rw [List.append_nil]; exact q2)
def dSM (C : Addr) (n : Nat) (W : DC) (t : DE) (tl : DA) : DE := fun ρ M P => t ρ M fun x M1 => x = .ob C ∧ tl ρ M1 fun ds M2 => ds.length = n ∧ W ds M2 P
theorem pd_smeth {m : Str} {mc : Value} {q : Addr} {pl : Sem Bool} (he : PD X o t) (c : SMet X.K C mc m q g) (F : FnOk X.prog X.w X.K X.mg X.base CX0 k g fd ps (spD n W X.K)) (hb : Binds X.K fd ps []) (hr : Room k X.A) (ha : PDA X (e :: es) tl)
    (hst : starEach (e :: es) X.env = (false, eval e X.env) :: starEach es X.env := by rfl) (hpl : (backTo pos (starEach es X.env)).any (·.1) = false := by rfl)
    (ht : eval (.Call (.Attribute o m apos) (e :: es) [] pos) X.env = (do
      let ov ← eval o X.env
      standAt apos.atName
      let (f, first) ← holding [ov] (getMethod ov m pl)
      callWith pos f first (backTo pos (starEach (e :: es) X.env)) (backToKw pos (keywordEach [] X.env))) := by rfl) :
    PD X (.Call (.Attribute o m apos) (e :: es) [] pos) (dSM C n W t tl) := by
  obtain ⟨u, pf, sf⟩ := he.ex
  obtain ⟨ua, pa, sa⟩ := ha.ex
  refine ⟨_, pe_smeth pf c F hb hr pa hst hpl ht, ?_⟩
  intro as σ ρ L H M P Q hE A h qq
  refine sf as σ ρ L H M _ _ hE A h fun v d L1 H1 M1 s1 A1 h1 r1 => ?_
  obtain ⟨rfl, h1⟩ := h1
  cases r1
  refine ⟨rfl, sa as σ ρ L1 H1 M1 _ _ (hE.mono s1.k s1.pre) A1 h1 fun vs ds L2 H2 M2 s2 A2 h2 r2 => ?_⟩
  exact sp_of A2 r2 h2.1 h2.2 fun v z L3 H3 M3 s3 A3 h3 r3 => qq v z L3 H3 M3 ((s1.trans A1 s2).trans A2 s3) A3 h3 r3
theorem pd_make {f : Addr} {x : Str} (M : Mk X.K C f) (F : FnOk X.prog X.w X.K X.mg X.base CX0 k f fd ps (spD n W X.K)) (hr : Room (k + 1) X.A) (hg : Gl X x) (hm : X.mg x = some (.ref C)) (hb : Binds X.K fd ps [])
    (ha : PDA X (e :: es) tl) (hdb : (x == ("__debug__" : Str)) = false := by decide) (he : starEach (e :: es) X.env = (false, eval e X.env) :: starEach es X.env := by rfl) (hpl : (backTo pos (starEach es X.env)).any (·.1) = false := by rfl) :
    PD X (.Call (.Name x p) (e :: es) [] pos) (dMake C n W tl) := by
  obtain ⟨ua, pa, sa⟩ := ha.ex
  exact ⟨_, pe_make M F hr hg hm hb .nil (pass0 (X := X)) pa hdb he hpl, sim_make sa⟩
/-! ### self.f = e, self the new instance -/
def putD (f : Str) (v : D) : List (Str × D) → List (Str × D)
  | [] => [(f, v)]
  | (g, x) :: r => if g = f then (g, v) :: r else (g, x) :: putD f v r
theorem RpF.put {K : PySem.W.Frag} {as : List Addr} {L : Hp} {f : Str} {v : V} {d : D} (r : Rp K as L v d) : ∀ {fs : List (Str × V)} {gs : List (Str × D)}, RpF K as L fs gs → RpF K as L (putF f v fs) (putD f d gs)
  | _, _, .nil => .cons r .nil
  | _, _, .cons (f := g) (v := w) (fs := fs) (d := dd) (gs := gs) q t => by
    show RpF K as L (if g = f then (g, v) :: fs else (g, w) :: putF f v fs) (if g = f then (g, d) :: gs else (g, dd) :: putD f d gs)
    by_cases h : g = f
    · rw [if_pos h, if_pos h]; exact .cons r t
    · rw [if_neg h, if_neg h]; exact .cons q (RpF.put r t)
def sFldM (K : PySem.W.Frag) (f : Str) (tv to : DE) : DS := fun De ρ M => tv ρ M fun v M1 => to ρ M1 fun x M2 => ∃ j C gs, x = .mu j ∧ M2[j]? = some (.ins C gs) ∧ Cls K C ∧ NoAttr K C f ∧ gs.length < 1000 ∧ De.nx ρ (M2.set j (.ins C (putD f v gs)))
theorem pds_fldM {f : Str} (hv : PD X value tv) (ho : PD X o t) (hs : swapsWith value (some (.Attribute o f pos')) pos.line X.env = pure false := by rfl) : PDS X (.Assign [.Attribute o f pos'] value pos) (sFldM X.K f tv t) := by
  obtain ⟨u, p1, s1⟩ := hv.ex
  obtain ⟨u2, p2, s2⟩ := ho.ex
  refine ⟨_, ps_fld p2 p1 hs, ?_⟩
  intro as σ ρ L H M De D hE A h c
  refine s1 as σ ρ L H M _ _ hE A h fun v d L1 H1 M1 t1 A1 h1 r1 => ?_
  refine s2 as σ ρ L1 H1 M1 _ _ (hE.mono t1.k t1.pre) A1 h1 fun x d2 L2 H2 M2 t2 A2 h2 r2 => ?_
  obtain ⟨j, C, gs, rfl, hm, hc, hn, hl, p⟩ := h2
  cases r2 with
  | mu hk =>
    obtain ⟨dx, fs, g1, g2⟩ := A2.ins hk hm
    refine ⟨_, C, dx, fs, rfl, g1, hc, hn, by rw [g2.length]; exact hl, ?_⟩
    exact c.nx σ ρ L2 _ _ ((t1.trans A1 t2).trans A2 (Step.put (List.mem_of_getElem? hk))) (A2.put hk (.ins (g2.put (r1.mono t2.k t2.pre)))) (hE.mono (t1.k.trans t2.k) (Pre.refl _)) p
end
/-! ### lists and tuples joined, repeated -/
section
variable {K : PySem.W.Frag}
end
end Pd

set_option Elab.async false
set_option linter.all false
set_option maxRecDepth 100000
set_option maxHeartbeats 1000000
namespace Pd
open PySem PySem.Spec PyProof.Rows L2
/-! ### lists and tuples joined, a tuple repeated -/
def rCatL (K : PySem.W.Frag) : R2 := fun x y H Q => ∃ l b xs zs, x = .ref l ∧ y = .ref b ∧ SqL K H l xs ∧ SqL K H b zs ∧ xs.length + zs.length ≤ sizeLine ∧ ∀ p, H p = none → Q (.ref p) (upd H p (.lst (xs ++ zs)))
theorem op_catL {X : Cx} : OpR X (binaryOp .Add) (rCatL X.K) := by
  intro pins s σ H x y v u Q I rx ry h
  obtain ⟨l, b, xs, zs, rfl, rfl, hH, hB, hz, q⟩ := h
  cases rx
  cases ry
  obtain ⟨its, r, ⟨⟨cls, dd, data, sl⟩, n, ho, hc, hdn, hd⟩, _⟩ := I.list hH
  obtain ⟨its2, r2, ⟨⟨cls2, dd2, data2, sl2⟩, n2, ho2, hc2, hdn2, hd2⟩, _⟩ := I.list hB
  simp only at hc hd hc2 hd2
  subst hc hd hc2 hd2
  have e : its.toArray ++ its2.toArray = (its ++ its2).toArray := by simp
  have h1 := r.length
  have h2 := r2.length
  refine concat_meets ⟨_, ho, rfl⟩ ⟨_, ho2, rfl⟩ noFill_list_add seq_list_add PySem.F.slot_list_add PySem.F.entry_list_add (PySem.F.args_list_add_2 _ _) (list_addW l b its.toArray its2.toArray n n2 dd dd2 sl sl2 (by simp only [List.size_toArray]; omega)) ⟨ho, ho2, ?_⟩
  rw [e]
  exact ⟨.ref _, _, I.lnew (t' := s.toks) (r.append r2) (by rw [List.length_append]; omega), rfl, q _ I.fresh⟩
def oCatL : D2 := fun x y M P => ∃ ds es, x = .lst ds ∧ y = .lst es ∧ ds.length + es.length ≤ sizeLine ∧ P (.lst (ds ++ es)) M
theorem sr_catL {K : PySem.W.Frag} : SimR K (rCatL K) oCatL := by
  intro as L H M x y d e P Q A r1 r2 ⟨ds, es, h1, h2, h3, p⟩ q
  subst h1; subst h2
  cases r1 with
  | lst g1 w1 =>
    cases r2 with
    | lst g2 w2 => exact ⟨_, _, _, _, rfl, rfl, ex_l A.low g1, ex_l A.low g2, by rw [w1.length, w2.length]; exact h3, fun p' hp => q _ _ _ _ M (Step.know A hp) (A.know hp) p (.lst (.inl (.inl upd_same)) ((w1.append w2).mono (Ex.new (lowfree A hp)) (Pre.refl _)))⟩
def oCatT : D2 := fun x y M P => ∃ ds es, x = .tup ds ∧ y = .tup es ∧ ds.length + es.length ≤ sizeLine ∧ P (.tup (ds ++ es)) M
theorem sr_catT {K : PySem.W.Frag} : SimR K (rCatA K) oCatT := by
  intro as L H M x y d e P Q A r1 r2 ⟨ds, es, h1, h2, h3, p⟩ q
  subst h1; subst h2
  cases r1 with
  | tup g1 w1 =>
    cases r2 with
    | tup g2 w2 =>
      refine ⟨_, _, _, _, rfl, rfl, ex_t A.low g1, ex_t A.low g2, by rw [w1.length, w2.length]; exact h3, fun e => ?_, fun e1 e2 => ?_, fun e1 e2 p' hp => ?_⟩
      · subst e
        cases w1
        exact q _ _ L H M .refl A p (.tup g2 w2)
      · subst e2
        cases w2
        rw [List.append_nil] at p
        exact q _ _ L H M .refl A p (.tup g1 w1)
      · exact q _ _ _ _ M (Step.know A hp) (A.know hp) p (.tup (.inl (.inl upd_same)) ((w1.append w2).mono (Ex.new (lowfree A hp)) (Pre.refl _)))
/-- once: the tuple itself -/
theorem tuple_mul1 (l : Addr) (items : Array Value) (n : Nat) (dd : Option Addr) (sl : Array (Option Value)) (u : Tok) :
    Meets (Builtin.«tuple.__mul__» ⟨[.ref l, .int 1 u], []⟩) (fun _ R s => s.heap.get? l = some { cls := .type "tuple", dict := dd, data := .seq items n, slots := sl } ∧ R (.ok (.ret (Value.ref l))) s) :=
  .of_wp fun prog w A R s h => by
    obtain ⟨hp, g, d, tk, os⟩ := s
    obtain ⟨hl, h⟩ := h
    have f1 := AutoSeq1.idx_int
    wp_walk using wpAny_loadPart' hl
    repeat (first
      | (refine wpAny_ite_false (decide_eq_false (by decide)) ?_; wp_walk using wpAny_loadPart' hl)
      | (refine wpAny_ite_true (decide_eq_true (by simp)) ?_; wp_walk using wpAny_loadPart' hl))
    exact ⟨_, rfl, h⟩

def rRepA (K : PySem.W.Frag) : R2 := fun x y H Q => ∃ l k xs, x = .ref l ∧ y = .int k ∧ SqT K H l xs ∧ xs ≠ [] ∧ 1 ≤ k ∧ k ≤ 1000 ∧ xs.length ≤ 1000 ∧ (k = 1 → Q (.ref l) H) ∧ (2 ≤ k → ∀ p, H p = none → Q (.ref p) (upd H p (.tup (List.replicate k.toNat xs).flatten)))
theorem op_repA {X : Cx} : OpR X (binaryOp .Mult) (rRepA X.K) := by
  intro pins s σ H x y v u Q I rx ry h
  obtain ⟨l, k, xs, rfl, rfl, hT, hne, h1, h2, hz, q1, q2⟩ := h
  by_cases hk : k = 1
  · subst hk
    cases rx
    obtain ⟨t, rfl⟩ := ry
    obtain ⟨its, r, ⟨⟨cls, dd, data, sl⟩, ho, hc, n, hd⟩, hs⟩ := I.tuple hT
    simp only at hc hd
    subst hc hd
    refine wpAny_binaryOp_repeat_ref (T := "tuple") (U := "int") (by decide) ⟨_, ho, rfl⟩ (fun s' => typeIs_int s' 1 t) noFill_tuple_mul F.fills_int_mul F.slot_int_rmul repeat_tuple F.slot_int_index.lookup
      (call_meets F.slot_int_rmul (typeIs_int s 1 t) F.entry_int_rmul (F.args_int_rmul_2 _ _) (int_rmul_tuple 1 t l its.toArray n dd sl)
        ⟨ho, rfl, ⟨_, ho, rfl⟩, call_meets F.slot_tuple_mul ⟨_, ho, rfl⟩ F.entry_tuple_mul (F.args_tuple_mul_2 _ _) (tuple_mul1 l its.toArray n dd sl t) ⟨ho, ?_⟩⟩)
    exact ⟨.ref l, H, I, rfl, q1 rfl⟩
  · exact op_repT pins s σ H _ _ v u Q I rx ry ⟨l, k, xs, rfl, rfl, hT, hne, by omega, h2, hz, q2 (by omega)⟩
def oRepT : D2 := fun x y M P => ∃ (ds : List D) (k : Int), x = .tup ds ∧ y = .int k ∧ ds ≠ [] ∧ 1 ≤ k ∧ k ≤ 1000 ∧ ds.length ≤ 1000 ∧ P (.tup (List.replicate k.toNat ds).flatten) M
theorem RpA.rep {K : PySem.W.Frag} {as : List Addr} {L : Hp} {xs : List V} {ds : List D} (r : RpA K as L xs ds) : ∀ n : Nat, RpA K as L (List.replicate n xs).flatten (List.replicate n ds).flatten
  | 0 => .nil
  | n + 1 => by
    rw [List.replicate_succ, List.replicate_succ, List.flatten_cons, List.flatten_cons]
    exact r.append (RpA.rep r n)
theorem sr_repT {K : PySem.W.Frag} : SimR K (rRepA K) oRepT := by
  intro as L H M x y d e P Q A r1 r2 ⟨ds, k, h1, h2, hne, hk1, hk2, hl, p⟩ q
  subst h1; subst h2
  cases r2
  cases r1 with
  | tup g1 w1 =>
    refine ⟨_, k, _, rfl, rfl, ex_t A.low g1, fun e => hne (by subst e; cases w1 <;> rfl), hk1, hk2, by rw [w1.length]; exact hl, fun e => ?_, fun _ p' hp => ?_⟩
    · subst e
      have e1 : (List.replicate (1 : Int).toNat ds).flatten = ds := by simp
      rw [e1] at p
      exact q _ _ L H M .refl A p (.tup g1 w1)
    · exact q _ _ _ _ M (Step.know A hp) (A.know hp) p (.tup (.inl (.inl upd_same)) ((w1.rep _).mono (Ex.new (lowfree A hp)) (Pre.refl _)))
/-! ### x != y of a class with __eq__ alone -/
theorem ne_own {prog : Program} {w : World} {A : Around} {E : Value → Shared → Prop} {s : Shared} {K : PySem.W.Frag} {x C L f : Addr} {h₀ : Heap} {m : Str → Option Value} {ox : Obj} {od : Option Obj} {b tb : Value} {Q : Value → Shared → Prop}
    (hu : A.units + 1 < cLine) (Fx : Fr h₀ L s.heap m) (X₀ : K.In h₀) (I : PySem.W.InstAt s.heap x ox C od) (hb : PySem.W.Looks (model prog w) s.heap (typeOf b) tb) (hn : PySem.W.notFirst K C tb = true)
    (hs : PySem.W.findIn K (.ref C) "__eq__" = some (some (.ref f))) (hf : PySem.W.isFn K (.ref f) = true) (hne : PySem.W.findIn K (.ref C) "__ne__" = some (some (.builtin "object.__ne__"))) (hm : PySem.W.mroIn K C (.type "object") = some true)
    (h : codeAny (model prog w) A.in1 (.call (.ref f) ⟨[.ref x, b], []⟩) (fun r s' => match r with | .ok (.ret v) => ∃ k, v = .bool k ∧ Q (.bool (!k)) s' | .ok _ => False | .error e => E e s') s) : wpAny (model prog w) A (richCompare .NotEq (.ref x) b) Q E s := by
  have X := X₀.keeps Fx.keep
  have body : wpAny (model prog w) A (call (.builtin "object.__ne__") [.ref x, b]) (fun v s' => ∃ k, v = .bool k ∧ Q (.bool k) s') E s := by
    refine wpAny_call (codeAny_call_builtin PySem.F.cmp_object.ne.plain PySem.F.cmpEntry_ne (PySem.W.check_slot PySem.F.cmpKind_ne PySem.F.cmpSplit_ne (I.type.andThen (PySem.W.looks_mroIn X hm)) (PySem.F.cmpArgs_ne _ _) ?_))
    unfold Builtin.«object.__ne__»
    repeat (first | with_reducible refine wpAny_cRoomFor (show A.in1.units < cLine from hu) ?_ | with_reducible refine PySem.W.ifBound_K X I hs hf ?_ | wp_step)
    refine codeAny_mono h fun r s' q => ?_
    cases r with
    | error e => exact q
    | ok fl =>
      cases fl with
      | ret v =>
        obtain ⟨k, rfl, q⟩ := q
        refine wpAny_bind (wpAny_truthy_bool ?_)
        exact wpAny_pure ⟨_, rfl, q⟩
      | next => exact q
      | brk => exact q
      | cont => exact q
  have one : wpAny (model prog w) A (tryCompare (.ref x) "__ne__" b) (fun r s' => ∃ v, r = some v ∧ Q v s') E s := by
    unfold tryCompare
    refine wpAny_bind ?_
    simp only [callSpecialIfBound?, bindSpecialIfBound?]
    refine wpAny_holding (wpAny_bind (wpAny_bind (wpAny_bind (I.type.here ((PySem.W.looks_findIn X hne).here ?_)))))
    simp only [PySem.F.cmp_object.ne.bind]
    refine wpAny_bind (wpAny_askSetting (wpAny_ite ?_))
    split
    · refine wpAny_bind (wpAny_pure (wpAny_pure ?_))
      refine wpAny_bind (wpAny_mono body (fun v s' z => ?_) fun _ _ e => e)
      obtain ⟨k, rfl, q⟩ := z
      exact wpAny_pure (wpAny_pure ⟨_, rfl, q⟩)
    · refine wpAny_tryCatch (wpAny_bind (wpAny_pure (wpAny_pure ?_)))
      refine wpAny_bind (wpAny_mono body (fun v s' z => ?_) fun _ _ e => e)
      obtain ⟨k, rfl, q⟩ := z
      exact wpAny_pure (wpAny_pure ⟨_, rfl, q⟩)
  unfold richCompare
  simp only [oneThing_ref]
  refine wpAny_holding (wpAny_bind (wpAny_cRoomFor (Nat.lt_of_le_of_lt (Nat.le_succ _) hu) ?_))
  refine wpAny_bind (I.type.here (wpAny_bind (hb.here ?_)))
  split
  · rename_i q
    have e : PySem.W.subIn K tb (.ref C) = some false := by
      rcases Bool.or_eq_true_iff.mp hn with e | e
      · rw [beq_iff_eq.mp e] at q; simp at q
      · exact beq_iff_eq.mp e
    refine wpAny_bind ((PySem.W.looks_subIn X e).here ?_)
    simp only [Bool.false_eq_true, if_false]
    refine wpAny_bind (wpAny_mono one (fun r s' z => ?_) fun _ _ e => e)
    obtain ⟨v, rfl, hq⟩ := z
    exact wpAny_pure hq
  · refine wpAny_bind (wpAny_pure ?_)
    simp only [Bool.false_eq_true, if_false]
    refine wpAny_bind (wpAny_mono one (fun r s' z => ?_) fun _ _ e => e)
    obtain ⟨v, rfl, hq⟩ := z
    exact wpAny_pure hq
section
variable {X : Cx} {k n : Nat} {C g : Addr} {fd : FuncData} {ps : List Str} {W : DC}
def rOwnNe (K : PySem.W.Frag) (C : Addr) (n : Nat) (W : DC) : R2 := fun x y H Q => ∃ a dx fs t, x = .ref a ∧ H a = some (.ins C dx fs) ∧ TyE K H y t ∧ PySem.W.notFirst K C t = true ∧ spD n W K [x, y] H (fun z H' => ∃ b, z = .bl b ∧ Q (.bl (!b)) H') E0
theorem op_ownNe (hs : PySem.W.findIn X.K (.ref C) "__eq__" = some (some (.ref g))) (hf : PySem.W.isFn X.K (.ref g) = true) (hne : PySem.W.findIn X.K (.ref C) "__ne__" = some (some (.builtin "object.__ne__"))) (hm : PySem.W.mroIn X.K C (.type "object") = some true)
    (F : FnOk X.prog X.w X.K X.mg X.base CX0 k g fd ps (spD n W X.K)) (hb : Binds X.K fd ps []) (hr : Room (k + 1) X.A) : OpR X (compareOp .NotEq) (rOwnNe X.K C n W) := by
  intro pins s σ H x y v u Q I rx ry h
  obtain ⟨a, dx, fs, t, rfl, ha, ht, hn, q⟩ := h
  cases (show v = Value.ref a from rx)
  obtain ⟨mA, O, _⟩ := ins_get I.hok ha
  obtain ⟨od, J, _⟩ := O.look
  obtain ⟨m, hF⟩ := I.fr
  show wpAny _ _ (richCompare .NotEq _ _) _ _ _
  refine ne_own (tb := t) (hu_of hr) hF I.ok.mod.kin J (ht.looks I ry) hn hs hf hne hm ?_
  have hl : ([Value.ref a, u] : List Value).length = ps.length := by rw [← F.len _ _ _ _ q]; rfl
  refine codeAny_mono (F.run X.A.in1 X.stack s H ⟨[.ref a, u], []⟩ [.ref a, u] [.ref a, y] _ E0 hr.in1 I.env0.in1 (by simpa using hb s [.ref a, u] I.kIn (by simpa using hl)) (.cons rfl (.cons ry .nil)) q) fun r s' hq => ?_
  cases r with
  | error er => exact False.elim hq
  | ok fl =>
    cases fl with
    | ret w =>
      obtain ⟨z, H', I', rz, b, rfl, q3⟩ := I.after hq
      cases rz
      exact ⟨b, rfl, .bl (!b), H', I', rfl, q3⟩
    | next => exact hq
    | brk => exact hq
    | cont => exact hq
def oOwnNe (K : PySem.W.Frag) (C : Addr) (W : DC) : D2 := fun x y M P => ∃ fs t, x = .ins C fs ∧ DTy K y t ∧ PySem.W.notFirst K C t = true ∧ W [x, y] M fun z M' => ∃ b, z = .bl b ∧ P (.bl (!b)) M'
theorem sr_ownNe {K : PySem.W.Frag} : SimR K (rOwnNe K C 2 W) (oOwnNe K C W) := by
  intro as L H M x y d e P Q A r1 r2 ⟨fs, t, h1, h2, h3, p⟩ q
  subst h1
  have r1' := r1
  cases r1 with
  | ins g1 _ => exact ⟨_, _, _, t, rfl, A.low _ _ g1, dtyE A r2 h2, h3, sp_of A (.cons r1' (.cons r2 .nil)) rfl p fun v z L' H' M' s' A' hz rz => by
      obtain ⟨b, rfl, hp⟩ := hz
      cases rz
      exact ⟨b, rfl, q _ _ L' H' M' s' A' hp (.bl _)⟩⟩
end
end Pd

set_option Elab.async false
set_option linter.all false
set_option maxRecDepth 100000
set_option maxHeartbeats 1000000
namespace Pd
open PySem PySem.Spec PyProof.Rows L2
/-! ### zip, while the pair given out before is held -/
theorem zip_no_len : typeLookup (.type "zip") "__len__" = pure none := by rw [typeLookup_type, builtinLookup_eq_fast]; kernel_rfl
theorem zip_no_hint : typeLookup (.type "zip") "__length_hint__" = pure none := by rw [typeLookup_type, builtinLookup_eq_fast]; kernel_rfl
section
variable {prog : Program} {w : World} {A : Around} {E : Value → Shared → Prop} {s : Shared} {z TI TO i1 i2 : Addr} {fp1 fp2 : List Addr} {n1 n2 i : Nat} {P1 P2 : Nat → Value → Prop} {St1 St2 : Nat → Heap → Prop} {T : Addr} {f : Bool} {oT : Obj}
theorem zipH_item {Q : Value → Shared → Prop} (S : ZipSep2 z TI TO i1 i2 fp1 fp2) (D1 : Draws prog w A i1 fp1 n1 P1 St1) (D2 : Draws prog w A i2 fp2 n2 P2 St2)
    (hz : IsZipHeld s.heap z TI TO T f) (hT : s.heap.get? T = some oT) (hTI : IsTupOf2 s.heap TI (.ref i1) (.ref i2)) (st1 : St1 i s.heap) (st2 : St2 i s.heap) (hlt1 : i < n1) (hlt2 : i < n2)
    (hQ : ∀ x1 x2 h' tk, P1 i x1 → P2 i x2 → IsZipHeld h' z TI TO T true → St1 (i + 1) h' → St2 (i + 1) h' → IsTupOf2 h' s.heap.objs.size x1 x2 → h'.objs.size = s.heap.objs.size + 1 →
      (∀ c o, c ≠ z → c ≠ i1 → c ≠ i2 → s.heap.get? c = some o → h'.get? c = some o) → Q (.ref s.heap.objs.size) { s with heap := h', toks := tk }) :
    wpAny (model prog w) A (Builtin.«zip.__next__» ⟨[.ref z], []⟩) (fun fin s' => ∃ v, fin = .done (.ret v) ∧ Q v s') E s := by
  obtain ⟨hp, g, d, tk0, os⟩ := s
  show wpAny _ _ (field (.ref z) 2 >>= _) _ _ _
  refine wpAny_bind (wpAny_field hz rfl (x := .bool false) rfl ?_)
  show wpAny _ _ (field (.ref z) 3 >>= _) _ _ _
  refine wpAny_bind (wpAny_field hz rfl (x := .ref TI) rfl ?_)
  refine wpAny_bind (wpAny_seqItems hTI rfl ?_)
  show wpAny _ _ (Builtin.SmallTypes.ownedTupleIsFree (.ref z) >>= _) _ _ _
  refine wpAny_bind (wpAny_tupleHeld_zip hz hT fun g0 hz0 hs0 => ?_)
  replace hs0 : Heap.SameBut z hp g0 := hs0
  simp only [Bool.false_eq_true, if_false]
  refine wpAny_bind ?_
  rw [← Array.forIn_toList]
  simp only [List.forIn_cons, List.forIn_nil]
  refine wpAny_bind (wpAny_bind (wpAny_holding ?_))
  show wpAny _ _ (Builtin.SmallTypes.nextOf (.ref i1) >>= _) _ _ ⟨g0, g, d, tk0, os⟩
  refine wpAny_bind (D1.item i _ _ _ hlt1 (D1.over st1 hs0 S.zf1) fun x1 p1 tk1 hx1 sn1 hp1 => wpAny_pure ?_)
  replace hp1 : Heap.SameBut i1 g0 p1 := hp1
  refine wpAny_pure ?_
  refine wpAny_bind (wpAny_bind (wpAny_holding ?_))
  show wpAny _ _ (Builtin.SmallTypes.nextOf (.ref i2) >>= _) _ _ ⟨p1, g, d, tk1, os⟩
  refine wpAny_bind (D2.item i _ _ _ hlt2 (D2.over (D2.over st2 hs0 S.zf2) hp1 S.sep1_2) fun x2 p2 tk2 hx2 sn2 hp2 => wpAny_pure ?_)
  replace hp2 : Heap.SameBut i2 p1 p2 := hp2
  refine wpAny_pure (wpAny_pure ?_)
  show wpAny _ _ (newTuple [x1, x2] >>= _) _ _ _
  refine wpAny_bind (wpAny_newTuple ?_)
  have hsz : p2.objs.size = hp.objs.size := by rw [hp2.1, hp1.1, hs0.1]
  have hz₃ : IsZipHeld p2 z TI TO T true := hp2.extBut _ _ S.zi2 (hp1.extBut _ _ S.zi1 hz0)
  have hk : ∀ c o, c ≠ z → c ≠ i1 → c ≠ i2 → hp.get? c = some o → p2.get? c = some o := fun c o c1 c2 c3 e => hp2.extBut _ _ c3 (hp1.extBut _ _ c2 (hs0.extBut _ _ c1 e))
  have hj1 : St1 (i + 1) p2 := D1.over sn1 hp2 S.sep2_1
  refine wpAny_pure ⟨_, rfl, ?_⟩
  show Q (.ref p2.objs.size) ⟨p2.push { cls := .type "tuple", data := .seq #[x1, x2] }, g, d, tk2, os⟩
  have hq : IsTupOf2 (p2.push { cls := .type "tuple", data := .seq #[x1, x2] }) p2.objs.size x1 x2 := Heap.get?_push_size _ rfl
  have hz4 : (p2.push { cls := .type "tuple", data := .seq #[x1, x2] }).objs.size = p2.objs.size + 1 := Heap.size_push ..
  have up : ∀ c o, p2.get? c = some o → (p2.push { cls := .type "tuple", data := .seq #[x1, x2] }).get? c = some o := fun c o e => Heap.get?_push_of_some _ e
  rw [hsz] at hq hz4 ⊢
  exact hQ x1 x2 _ tk2 hx1 hx2 (up _ _ hz₃) (D1.frame _ _ _ hj1 fun b _ o e => up b o e) (D2.frame _ _ _ sn2 fun b _ o e => up b o e) hq hz4 fun c o c1 c2 c3 e => up c o (hk c o c1 c2 c3 e)
theorem zipH_end {Q : Fin → Shared → Prop} (S : ZipSep2 z TI TO i1 i2 fp1 fp2) (D1 : Draws prog w A i1 fp1 n1 P1 St1) (D2 : Draws prog w A i2 fp2 n2 P2 St2)
    (hz : IsZipHeld s.heap z TI TO T f) (hT : s.heap.get? T = some oT) (hTI : IsTupOf2 s.heap TI (.ref i1) (.ref i2)) (st1 : St1 i s.heap) (st2 : St2 i s.heap) (hle1 : i ≤ n1) (hle2 : i ≤ n2) (hend : i = n1 ∨ i = n2)
    (hE : ∀ h' tk e, (∀ c o, c ≠ z → c ≠ i1 → c ≠ i2 → s.heap.get? c = some o → h'.get? c = some o) → (∃ o, h'.get? e = some o ∧ o.cls = .type "StopIteration") → E (.ref e) { s with heap := h', toks := tk }) :
    wpAny (model prog w) A (Builtin.«zip.__next__» ⟨[.ref z], []⟩) Q E s := by
  obtain ⟨hp, g, d, tk0, os⟩ := s
  show wpAny _ _ (field (.ref z) 2 >>= _) _ _ _
  refine wpAny_bind (wpAny_field hz rfl (x := .bool false) rfl ?_)
  show wpAny _ _ (field (.ref z) 3 >>= _) _ _ _
  refine wpAny_bind (wpAny_field hz rfl (x := .ref TI) rfl ?_)
  refine wpAny_bind (wpAny_seqItems hTI rfl ?_)
  show wpAny _ _ (Builtin.SmallTypes.ownedTupleIsFree (.ref z) >>= _) _ _ _
  refine wpAny_bind (wpAny_tupleHeld_zip hz hT fun g0 hz0 hs0 => ?_)
  replace hs0 : Heap.SameBut z hp g0 := hs0
  simp only [Bool.false_eq_true, if_false]
  refine wpAny_bind ?_
  rw [← Array.forIn_toList]
  simp only [List.forIn_cons, List.forIn_nil]
  refine wpAny_bind (wpAny_bind (wpAny_holding ?_))
  show wpAny _ _ (Builtin.SmallTypes.nextOf (.ref i1) >>= _) _ _ ⟨g0, g, d, tk0, os⟩
  by_cases hlt1 : i < n1
  · refine wpAny_bind (D1.item i _ _ _ hlt1 (D1.over st1 hs0 S.zf1) fun x1 p1 tk1 hx1 sn1 hp1 => wpAny_pure ?_)
    replace hp1 : Heap.SameBut i1 g0 p1 := hp1
    refine wpAny_pure ?_
    have hi2 : i = n2 := by omega
    refine wpAny_bind (wpAny_bind (wpAny_holding ?_))
    show wpAny _ _ (Builtin.SmallTypes.nextOf (.ref i2) >>= _) _ _ ⟨p1, g, d, tk1, os⟩
    refine wpAny_bind (D2.done ⟨p1, g, d, tk1, os⟩ _ _ (by rw [← hi2]; exact (D2.over (D2.over st2 hs0 S.zf2) hp1 S.sep1_2)) fun q e hq he => ?_)
    exact hE q tk1 e (fun c o cz c1 c2 x => hq _ _ c2 (hp1.extBut _ _ c1 (hs0.extBut _ _ cz x))) he
  · have hi1 : i = n1 := by omega
    refine wpAny_bind (D1.done ⟨g0, g, d, tk0, os⟩ _ _ (by rw [← hi1]; exact (D1.over st1 hs0 S.zf1)) fun q e hq he => ?_)
    exact hE q tk0 e (fun c o cz c1 c2 x => hq _ _ c1 (hs0.extBut _ _ cz x)) he
/-- a zip, fresh or with a pair that is held -/
def ZSt (h : Heap) (L : Addr → Prop) (z TI TO i1 i2 : Addr) : Prop := IsTupOf2 h TI (.ref i1) (.ref i2) ∧ (∃ a b, IsTupOf2 h TO a b) ∧ (IsZip h z TI TO .none ∨ ∃ T f, IsZipHeld h z TI TO T f ∧ L T)
theorem zl_item {L : Addr → Prop} {Q : Option Value → Shared → Prop} (S : ZipSep2 z TI TO i1 i2 fp1 fp2) (D1 : Draws prog w A.in1 i1 fp1 n1 P1 St1) (D2 : Draws prog w A.in1 i2 fp2 n2 P2 St2)
    (hz : ZSt s.heap L z TI TO i1 i2) (hL : ∀ T, L T → ∃ o, s.heap.get? T = some o) (st1 : St1 i s.heap) (st2 : St2 i s.heap) (hlt1 : i < n1) (hlt2 : i < n2)
    (hQ : ∀ x1 x2 h' tk, P1 i x1 → P2 i x2 → ZSt h' (fun T => L T ∨ T = s.heap.objs.size) z TI TO i1 i2 → St1 (i + 1) h' → St2 (i + 1) h' → IsTupOf2 h' s.heap.objs.size x1 x2 → h'.objs.size = s.heap.objs.size + 1 →
      (∀ c o, c ≠ z → c ≠ TO → c ≠ i1 → c ≠ i2 → s.heap.get? c = some o → h'.get? c = some o) → Q (some (.ref s.heap.objs.size)) { s with heap := h', toks := tk }) :
    wpAny (model prog w) A (pyNext (.ref z)) Q E s := by
  obtain ⟨hTI, ⟨a0, b0, hTO⟩, hz⟩ := hz
  rcases hz with hz | ⟨T, f, hz, hT⟩
  · refine wpAny_pyNext_zipD2_item S D1 D2 hz hTI hTO st1 st2 hlt1 hlt2 fun x1 x2 h' tk y1 y2 b1 b2 d1 d2 b5 b6 hk => ?_
    exact hQ x1 x2 h' tk y1 y2 ⟨hk _ _ S.TIz S.TITO S.TIi1 S.TIi2 hTI, ⟨_, _, b2⟩, .inr ⟨_, false, b1, .inr rfl⟩⟩ d1 d2 b5 b6 hk
  · obtain ⟨oT, hoT⟩ := hL T hT
    have hTy : s.TypeIs (.ref z) "zip" := ⟨_, hz, rfl⟩
    unfold pyNext
    exact wpAny_bind (wpAny_attempt (wpAny_callSpecial?_slot (name := Str.ofString "__next__") hTy F.slot_zip_next
      (wpAny_call_entry F.slot_zip_next hTy F.entry_zip_next
        (zipH_item S D1 D2 hz hoT hTI st1 st2 hlt1 hlt2 fun x1 x2 h' tk y1 y2 b1 d1 d2 b5 b6 hk => wpAny_pure (hQ x1 x2 h' tk y1 y2 ⟨hk _ _ S.TIz S.TIi1 S.TIi2 hTI, ⟨_, _, hk _ _ S.TOz S.Ti1 S.Ti2 hTO⟩, .inr ⟨_, _, b1, .inl hT⟩⟩ d1 d2 b5 b6 fun c o c1 _ c3 c4 e => hk c o c1 c3 c4 e)) (F.args_zip_next_1 _))))
theorem zl_end {L : Addr → Prop} {Q : Option Value → Shared → Prop} (S : ZipSep2 z TI TO i1 i2 fp1 fp2) (D1 : Draws prog w A.in1 i1 fp1 n1 P1 St1) (D2 : Draws prog w A.in1 i2 fp2 n2 P2 St2)
    (hz : ZSt s.heap L z TI TO i1 i2) (hL : ∀ T, L T → ∃ o, s.heap.get? T = some o) (st1 : St1 i s.heap) (st2 : St2 i s.heap) (hle1 : i ≤ n1) (hle2 : i ≤ n2) (hend : i = n1 ∨ i = n2)
    (hQ : ∀ h' tk, (∀ c o, c ≠ z → c ≠ TO → c ≠ i1 → c ≠ i2 → s.heap.get? c = some o → h'.get? c = some o) → Q none { s with heap := h', toks := tk }) : wpAny (model prog w) A (pyNext (.ref z)) Q E s := by
  obtain ⟨hTI, ⟨a0, b0, hTO⟩, hz⟩ := hz
  rcases hz with hz | ⟨T, f, hz, hT⟩
  · exact wpAny_pyNext_zipD2_end S D1 D2 hz hTI hTO st1 st2 hle1 hle2 hend hQ
  · obtain ⟨oT, hoT⟩ := hL T hT
    have hTy : s.TypeIs (.ref z) "zip" := ⟨_, hz, rfl⟩
    unfold pyNext
    refine wpAny_bind (wpAny_attempt (wpAny_callSpecial?_slot (name := Str.ofString "__next__") hTy F.slot_zip_next
      (wpAny_call_entry F.slot_zip_next hTy F.entry_zip_next (zipH_end S D1 D2 hz hoT hTI st1 st2 hle1 hle2 hend fun h' tk e hk he => ?_) (F.args_zip_next_1 _))))
    obtain ⟨o, ho, hc⟩ := he
    refine wpAny_bind (wpAny_isInstance (T := "StopIteration") (b := true) ⟨o, ho, hc⟩ isSubtype_stop ?_)
    exact wpAny_pure (hQ _ _ fun c o c1 _ c3 c4 e => hk c o c1 c3 c4 e)
theorem zl_hint {b : Value} {Q : Bool → Shared → Prop} (hT : s.TypeIs (.ref z) "zip") (h : Q true s) : wpAny (model prog w) A (Builtin.List.listLengthHint (.ref z)) Q E s := by
  unfold Builtin.List.listLengthHint
  refine wpAny_bind (wpAny_specialOf hT zip_no_len ?_)
  show wpAny _ _ (specialOf (Value.ref z) (Str.ofString "__length_hint__") >>= _) _ _ _
  refine wpAny_bind (wpAny_specialOf hT zip_no_hint ?_)
  exact wpAny_pure h
end
end Pd

set_option Elab.async false
set_option linter.all false
set_option maxRecDepth 100000
set_option maxHeartbeats 1000000
namespace Pd
open PySem PySem.Spec PyProof.Rows L2
/-! ### list(zip(a, b)) -/
/-- the pairs that a list holds -/
def PairsIn (H : Hp) (ts xs ys : List V) : Prop := ∀ (j : Nat) (t : V), ts[j]? = some t → ∃ T x y, t = .ref T ∧ H T = some (.tup [x, y]) ∧ xs[j]? = some x ∧ ys[j]? = some y
theorem PairsIn.up {H H' : Hp} {ts xs ys : List V} (h : PairsIn H ts xs ys) (k : ∀ c xs, H c = some (.tup xs) → H' c = some (.tup xs)) : PairsIn H' ts xs ys := fun j t e =>
  let ⟨T, x, y, h1, h2, h3, h4⟩ := h j t e
  ⟨T, x, y, h1, k _ _ h2, h3, h4⟩
section
variable {X : Cx} {pins : List (Addr × Obj)} {σ : L2.St}
def fpz (z TI TO i1 i2 : Addr) : List Addr := [z, TI, TO, i1, i2]
theorem zl_loop {A : Around} (hh : A.handled = none) (ka kb : Kd) {a b z TI TO i1 i2 S : Addr} (D : ZipApart z TI TO i1 i2 a b) {its its2 : List Value} {xs ys : List V} (rv : Vals xs its) (rv2 : Vals ys its2) {res : Value} {R : Result → Shared → Prop} {H0 : Hp} (hS0 : H0 S = none)
    (hsz : xs.length ≤ sizeLine) (nSa : S ≠ a) (nSb : S ≠ b)
    (fin : ∀ H' ts s', Inv X pins σ H' s' → (∀ c o, H0 c = some o → H' c = some o) → H' S = some (.lst ts) → ts.length = min xs.length ys.length → PairsIn H' ts xs ys → (∀ t ∈ ts, ∀ T, t = .ref T → H0 T = none) → R (.ok (.ret res)) s') :
    ∀ (m i : Nat) (H : Hp) (s : Shared) (ts : List V), min xs.length ys.length - i = m → i ≤ min xs.length ys.length → Inv X pins σ H s → (∀ c ∈ fpz z TI TO i1 i2, FpOk X pins H c) → ZSt s.heap (fun T => ∃ u, H T = some (.tup u)) z TI TO i1 i2 →
      IterK ka s.heap i1 a i → SeqAtK ka s.heap a its.toArray → IterK kb s.heap i2 b i → SeqAtK kb s.heap b its2.toArray → (∀ c o, H0 c = some o → H c = some o) → H S = some (.lst ts) → ts.length = i → PairsIn H ts xs ys → (∀ t ∈ ts, ∀ T, t = .ref T → H0 T = none) →
      codeAny (model X.prog X.w) A (.builtin "list.extend.loop" ⟨[.ref S, .ref z, res], []⟩) R s := by
  have l1 := rv.length
  have l2 := rv2.length
  have dz := zsep D
  intro m
  induction m with
  | zero =>
    intro i H s ts hm hi I fo zs h1 q1 h2 q2 up hS hl hp hf0
    have hin : i = min xs.length ys.length := by omega
    refine codeAny_builtin F.entry_extend_loop ?_
    rw [Around.under_plainId F.plain_extend_loop _]
    show wpAny _ A.in1 (pyNext (.ref z) >>= _) _ _ s
    refine wpAny_bind (zl_end (i := i) dz (drawsK ka (A := A.in1.in1) hh i1 a D.l1i1 its.toArray) (drawsK kb (A := A.in1.in1) hh i2 b D.l2i2 its2.toArray) zs (fun T ⟨u, hu⟩ => ?_) ⟨h1, q1⟩ ⟨h2, q2⟩ (by simp; omega) (by simp; omega) (by simp; omega) fun h' tk hk => ?_)
    · obtain ⟨_, _, _, _, e, _⟩ := I.hok T _ hu
      exact ⟨_, e⟩
    · exact wpAny_pure (fin H ts _ (I.turnedL (t' := tk) (ch := fpz z TI TO i1 i2) (fun c o hb q => hk c o (fun q' => hb (by simp [q', fpz])) (fun q' => hb (by simp [q', fpz])) (fun q' => hb (by simp [q', fpz])) (fun q' => hb (by simp [q', fpz])) q) fo) up hS (by omega) hp hf0)
  | succ m ih =>
    intro i H s ts hm hi I fo zs h1 q1 h2 q2 up hS hl hp hf0
    have hi1 : i < its.toArray.size := by simp; omega
    have hi2 : i < its2.toArray.size := by simp; omega
    have hx : i < xs.length := by omega
    have hy : i < ys.length := by omega
    refine codeAny_builtin F.entry_extend_loop ?_
    rw [Around.under_plainId F.plain_extend_loop _]
    show wpAny _ A.in1 (pyNext (.ref z) >>= _) _ _ s
    refine wpAny_bind (zl_item (i := i) dz (drawsK ka (A := A.in1.in1) hh i1 a D.l1i1 its.toArray) (drawsK kb (A := A.in1.in1) hh i2 b D.l2i2 its2.toArray) zs (fun T ⟨u, hu⟩ => ?_) ⟨h1, q1⟩ ⟨h2, q2⟩ hi1 hi2 fun x1 x2 h' tk g1 g2 zs' st1 st2 hT hsz' hk => ?_)
    · obtain ⟨_, _, _, _, e, _⟩ := I.hok T _ hu
      exact ⟨_, e⟩
    obtain ⟨u, hu, ru⟩ := rv.get (i := i) (x := xs[i]) (List.getElem?_eq_getElem hx)
    obtain ⟨u2, hu2, ru2⟩ := rv2.get (i := i) (x := ys[i]) (List.getElem?_eq_getElem hy)
    have e1 : x1 = u := by
      have g1' : its[i]? = some x1 := by simpa using g1
      rw [hu] at g1'; exact (Option.some.inj g1').symm
    have e2 : x2 = u2 := by
      have g2' : its2[i]? = some x2 := by simpa using g2
      rw [hu2] at g2'; exact (Option.some.inj g2').symm
    subst e1; subst e2
    have new : ObjOk X.prog X.w (upd H s.heap.objs.size (.tup [xs[i], ys[i]])) h' s.heap.objs.size (.tup [xs[i], ys[i]]) :=
      ⟨by show 2 ≤ sizeLine; decide, [x1, x2], .cons ru (.cons ru2 .nil), ⟨_, hT, rfl, _, rfl⟩⟩
    have hTn : H s.heap.objs.size = none := I.hok.fresh (Nat.le_refl _)
    have I1 : Inv X pins σ (upd H s.heap.objs.size (.tup [xs[i], ys[i]])) { s with heap := h', toks := tk } :=
      I.turnedNew (t' := tk) (ch := fpz z TI TO i1 i2) (fun c o hb q => hk c o (fun q' => hb (by simp [q', fpz])) (fun q' => hb (by simp [q', fpz])) (fun q' => hb (by simp [q', fpz])) (fun q' => hb (by simp [q', fpz])) q) fo (Nat.le_refl _) new
    have nST : S ≠ s.heap.objs.size := ne_of_none hS hTn
    have hS1 : upd H s.heap.objs.size (.tup [xs[i], ys[i]]) S = some (.lst ts) := by rw [upd_ne nST]; exact hS
    obtain ⟨zl, itt, nn, rt, lt, et⟩ := I1.lstM hS1
    show wpAny _ A.in1 (updateSeq S (·.push (.ref s.heap.objs.size)) >>= _) _ _ _
    refine wpAny_bind ?_
    have hlts : itt.length = i := by rw [← lt]; exact hl
    refine wpAny_updateSeq et rfl (wpAny_pure ⟨plainId_quiet F.plain_extend_loop _, ?_⟩) (by simp; omega) (by simp; omega)
    have I2 : Inv X pins σ (upd (upd H s.heap.objs.size (.tup [xs[i], ys[i]])) S (.lst (ts ++ [.ref s.heap.objs.size]))) { s with heap := h'.update S (Obj.mapSeq (·.push (.ref s.heap.objs.size))), toks := tk } :=
      I1.lset (t' := tk) (its' := itt ++ [.ref s.heap.objs.size]) hS1 et (by simp) (rt.append (.cons (show RelV (.ref s.heap.objs.size) (Value.ref s.heap.objs.size) from rfl) .nil)) (by rw [List.length_append, List.length_singleton]; omega)
    have oth : ∀ c o, c ≠ S → h'.get? c = some o → (h'.update S (Obj.mapSeq (·.push (.ref s.heap.objs.size)))).get? c = some o := fun c o hb e => (Heap.get?_update_other _ _ (Ne.symm hb)).trans e
    have nSf : ∀ c ∈ fpz z TI TO i1 i2, c ≠ S := fun c hcm e => by
      have := (fo c hcm).1
      rw [e, hS] at this; cases this
    have tupsUp : ∀ c vs, H c = some (.tup vs) → (upd (upd H s.heap.objs.size (.tup [xs[i], ys[i]])) S (.lst (ts ++ [.ref s.heap.objs.size]))) c = some (.tup vs) := fun c vs e => by
      have c1 : c ≠ S := fun q => by rw [q, hS] at e; cases e
      rw [upd_ne c1, upd_ne (ne_of_none e hTn)]
      exact e
    have newT : (upd (upd H s.heap.objs.size (.tup [xs[i], ys[i]])) S (.lst (ts ++ [.ref s.heap.objs.size]))) s.heap.objs.size = some (.tup [xs[i], ys[i]]) := by rw [upd_ne (Ne.symm nST), upd_same]
    refine ih (i + 1) _ _ (ts ++ [.ref s.heap.objs.size]) (by omega) (by omega) I2 (fun c hcm => ?_) ⟨?_, ?_, ?_⟩ ?_ ?_ ?_ ?_ (fun c o e => ?_) upd_same (by rw [List.length_append, List.length_singleton]; omega) (fun j t e => ?_) (fun t ht T e => ?_)
    · obtain ⟨n0, n1, n2, n3, n4, n5⟩ := fo c hcm
      refine ⟨?_, n1, n2, n3, n4, n5⟩
      have hlt : c ≠ s.heap.objs.size := by
        have e' : c = z ∨ c = TI ∨ c = TO ∨ c = i1 ∨ c = i2 := by simpa [fpz] using hcm
        rcases e' with q | q | q | q | q
        · obtain ⟨_, _, w3⟩ := zs
          rcases w3 with w3 | ⟨_, _, w3, _⟩
          · rw [q]; exact Nat.ne_of_lt (Heap.lt_size w3)
          · rw [q]; exact Nat.ne_of_lt (Heap.lt_size w3)
        · rw [q]; exact Nat.ne_of_lt (Heap.lt_size zs.1)
        · obtain ⟨_, _, w2⟩ := zs.2.1
          rw [q]; exact Nat.ne_of_lt (Heap.lt_size w2)
        · rw [q]; obtain ⟨_, e1, _⟩ := iterK_obj h1; exact Nat.ne_of_lt (Heap.lt_size e1)
        · rw [q]; obtain ⟨_, e2, _⟩ := iterK_obj h2; exact Nat.ne_of_lt (Heap.lt_size e2)
      rw [upd_ne (nSf c hcm), upd_ne hlt]
      exact n0
    · exact oth _ _ (nSf TI (by simp [fpz])) zs'.1
    · obtain ⟨_, _, w2⟩ := zs'.2.1
      exact ⟨_, _, oth _ _ (nSf TO (by simp [fpz])) w2⟩
    · rcases zs'.2.2 with w3 | ⟨T, f, w3, w4⟩
      · exact .inl (oth _ _ (nSf z (by simp [fpz])) w3)
      · refine .inr ⟨T, f, oth _ _ (nSf z (by simp [fpz])) w3, ?_⟩
        rcases w4 with ⟨vs, w4⟩ | w4
        · exact ⟨vs, tupsUp _ _ w4⟩
        · rw [w4]; exact ⟨_, newT⟩
    · exact iterK_at st1.1 fun o q => oth _ _ (nSf i1 (by simp [fpz])) q
    · have q3 := st1.2
      cases ka with
      | l => exact Heap.IsList.at q3 fun o q => oth _ _ (Ne.symm nSa) q
      | t => exact Heap.IsTuple.at q3 fun o q => oth _ _ (Ne.symm nSa) q
    · exact iterK_at st2.1 fun o q => oth _ _ (nSf i2 (by simp [fpz])) q
    · have q3 := st2.2
      cases kb with
      | l => exact Heap.IsList.at q3 fun o q => oth _ _ (Ne.symm nSb) q
      | t => exact Heap.IsTuple.at q3 fun o q => oth _ _ (Ne.symm nSb) q
    · have e' := up c o e
      have c1 : c ≠ S := fun q => by rw [q, hS0] at e; cases e
      rw [upd_ne c1, upd_ne (ne_of_none e' hTn)]
      exact e'
    · by_cases hj : j < ts.length
      · rw [List.getElem?_append_left hj] at e
        exact (hp.up tupsUp) j t e
      · rw [List.getElem?_append_right (by omega)] at e
        have hj' : j - ts.length = 0 := by
          have := (List.getElem?_eq_some_iff.mp e).1
          simp at this
          omega
        rw [hj'] at e
        cases e
        have hji : j = i := by omega
        subst hji
        exact ⟨_, _, _, rfl, newT, List.getElem?_eq_getElem hx, List.getElem?_eq_getElem hy⟩
    · rcases List.mem_append.mp ht with ht | ht
      · exact hf0 t ht T e
      · rw [List.mem_singleton.mp ht] at e
        cases e
        cases q : H0 s.heap.objs.size with
        | none => rfl
        | some o => have := up _ _ q; rw [hTn] at this; cases this

theorem zl_init {A : Around} (hh : A.handled = none) (ka kb : Kd) {a b z TI TO i1 i2 S : Addr} (D : ZipApart z TI TO i1 i2 a b) {its its2 : List Value} {xs ys : List V} (rv : Vals xs its) (rv2 : Vals ys its2) {R : Result → Shared → Prop} {H0 H : Hp} (hS0 : H0 S = none)
    (hsz : xs.length ≤ sizeLine) (nSa : S ≠ a) (nSb : S ≠ b) {s : Shared} (I : Inv X pins σ H s) (fo : ∀ c ∈ fpz z TI TO i1 i2, FpOk X pins H c) (hz : IsZip s.heap z TI TO .none) (hTI : IsTupOf2 s.heap TI (.ref i1) (.ref i2)) (hTO : ∃ u v, IsTupOf2 s.heap TO u v)
    (h1 : IterK ka s.heap i1 a 0) (q1 : SeqAtK ka s.heap a its.toArray) (h2 : IterK kb s.heap i2 b 0) (q2 : SeqAtK kb s.heap b its2.toArray) (up : ∀ c o, H0 c = some o → H c = some o) (hS : H S = some (.lst [])) (hSo : s.heap.get? S = some { cls := .type "list", data := .seq #[] })
    (fin : ∀ H' ts s', Inv X pins σ H' s' → (∀ c o, H0 c = some o → H' c = some o) → H' S = some (.lst ts) → ts.length = min xs.length ys.length → PairsIn H' ts xs ys → (∀ t ∈ ts, ∀ T, t = .ref T → H0 T = none) → R (.ok (.ret .none)) s') :
    wpAny (model X.prog X.w) A.in1 (Builtin.«list.__init__» ⟨[.ref S, .ref z], []⟩)
      (fun fin s' => match fin with | .done f => R (.ok f) s' | .again c' => c'.quiet = true ∧ codeAny (model X.prog X.w) A c' R s') (fun e s' => R (.error e) s') s := by
  have nSf : ∀ c ∈ fpz z TI TO i1 i2, c ≠ S := fun c hcm e => by
    have := (fo c hcm).1
    rw [e, hS] at this; cases this
  have nSz : S ≠ z := Ne.symm (nSf z (by simp [fpz]))
  -- the state stands while S alone is written
  have key : ∀ (h' : Heap), (∀ c o, c ≠ S → s.heap.get? c = some o → h'.get? c = some o) → Inv X pins σ H { s with heap := h' } → codeAny (model X.prog X.w) A (.builtin "list.extend.loop" ⟨[.ref S, .ref z, .none], []⟩) R { s with heap := h' } := by
    intro h' oth I'
    refine zl_loop hh ka kb D rv rv2 hS0 hsz nSa nSb fin _ 0 H _ [] rfl (Nat.zero_le _) I' fo ⟨oth _ _ (nSf TI (by simp [fpz])) hTI, ?_, .inl (oth _ _ (nSf z (by simp [fpz])) hz)⟩ (iterK_at h1 fun o q => oth _ _ (nSf i1 (by simp [fpz])) q) ?_ (iterK_at h2 fun o q => oth _ _ (nSf i2 (by simp [fpz])) q) ?_ up hS rfl (fun j t e => by simp at e) (fun t ht => by simp at ht)
    · obtain ⟨u, v, w⟩ := hTO
      exact ⟨u, v, oth _ _ (nSf TO (by simp [fpz])) w⟩
    · cases ka with
      | l => exact Heap.IsList.at q1 fun o q => oth _ _ (Ne.symm nSa) q
      | t => exact Heap.IsTuple.at q1 fun o q => oth _ _ (Ne.symm nSa) q
    · cases kb with
      | l => exact Heap.IsList.at q2 fun o q => oth _ _ (Ne.symm nSb) q
      | t => exact Heap.IsTuple.at q2 fun o q => oth _ _ (Ne.symm nSb) q
  have hU : upd H S (.lst []) = H := by
    funext c
    by_cases e : c = S
    · subst e; rw [upd_same, hS]
    · rw [upd_ne e]
  have wr : ∀ {h : Heap} {n : Nat} {its its' : List Value} (f : Array Value → Array Value), Inv X pins σ H { s with heap := h } → h.get? S = some { cls := .type "list", data := .seq its.toArray n } → f its.toArray = its'.toArray → its' = [] → Inv X pins σ H { s with heap := h.update S (Obj.mapSeq f) } := by
    intro h n its its' f I' e hf hn
    subst hn
    have := I'.lset (t' := s.toks) (ys := []) hS e hf .nil (Nat.zero_le _)
    rwa [hU] at this
  show wpAny _ _ (do let old ← Builtin.List.listItems (.ref S); Builtin.List.listUpdate (.ref S) (fun _ => #[]); letGo old.toList.reverse; Builtin.List.listExtendWith (.ref S) (.ref z) .none) _ _ s
  refine wpAny_bind ?_
  unfold Builtin.List.listItems
  refine wpAny_bind (wpAny_seqItems hSo rfl (wpAny_pure ?_))
  show wpAny _ _ (updateSeq S (fun _ => #[]) >>= fun _ => letGo (#[] : Array Value).toList.reverse >>= fun _ => Builtin.List.listExtendWith (.ref S) (.ref z) .none) _ _ s
  refine wpAny_bind (wpAny_updateSeq hSo rfl ?_)
  have hS₂ := Heap.get?_update_self (Obj.mapSeq (fun _ => (#[] : Array Value))) hSo rfl
  have oth : ∀ b o, b ≠ S → s.heap.get? b = some o → (s.heap.update S (Obj.mapSeq (fun _ => (#[] : Array Value)))).get? b = some o :=
    fun b o hb e => (Heap.get?_update_other _ _ (Ne.symm hb)).trans e
  have I2 := wr (its := []) (its' := []) (fun _ => (#[] : Array Value)) I hSo (by simp) rfl
  refine wpAny_bind (wpAny_letGo ?_)
  have hTy : ({ s with heap := s.heap.update S (Obj.mapSeq (fun _ => (#[] : Array Value))) } : Shared).TypeIs (.ref z) "zip" := ⟨_, oth _ _ (Ne.symm nSz) hz, rfl⟩
  unfold Builtin.List.listExtendWith
  refine wpAny_bind (wpAny_typeOf hTy ?_)
  have g1 : Builtin.List.listSameRef (.ref S) (.ref z) = false := by simp [Builtin.List.listSameRef, nSz]
  have g2 : (Value.type "zip" == Value.type "list") = false := by decide
  have g3 : (Value.type "zip" == Value.type "tuple") = false := by decide
  simp only [g1, g2, g3, Bool.or_false, Bool.false_eq_true, if_false]
  refine wpAny_bind (wpAny_pyIter_zip (oth _ _ (Ne.symm nSz) hz) ?_)
  refine wpAny_bind (wpAny_holding (zl_hint (b := .none) hTy ?_))
  refine wpAny_ite_split (fun _ => ?_) (fun _ => wpAny_pure ⟨plainId_quiet PySem.F.plain_extend_loop _, key _ oth I2⟩)
  refine wpAny_bind (wpAny_rule ?_)
  refine wpAny_bind ?_
  show wpAny _ _ (updateSeq S (·.push .none) >>= fun _ => updateSeq S (·.pop)) _ _ _
  refine wpAny_bind (wpAny_updateSeq hS₂ rfl ?_)
  have hS₃ := Heap.get?_update_self (Obj.mapSeq (·.push Value.none)) hS₂ rfl
  refine wpAny_updateSeq (hz := by seq_fits) hS₃ rfl ?_
  refine wpAny_pure ⟨plainId_quiet PySem.F.plain_extend_loop _, key _ (fun b o hb e => (Heap.get?_update_other _ _ (Ne.symm hb)).trans ((Heap.get?_update_other _ _ (Ne.symm hb)).trans (oth b o hb e))) ?_⟩
  have I3 := I2.lset (t' := s.toks) (ys := [.non]) (its' := [.none]) (its := []) (f := (·.push Value.none)) hS hS₂ (by simp) (.cons rfl .nil) (by decide)
  have I4 := I3.lset (t' := s.toks) (ys := []) (its' := []) (its := [.none]) (f := (·.pop)) upd_same hS₃ (by simp) .nil (by decide)
  rw [upd_upd, hU] at I4
  exact I4
end
/-- list(zip(a, b)), a and b a list or a tuple each -/
def tZipL (K : PySem.W.Frag) (ta : TA) : TE := fun σ H Q => ta σ H fun vs H1 => ∃ ka kb a b xs ys, vs = [.ref a, .ref b] ∧ SqK K ka H1 a xs ∧ SqK K kb H1 b ys ∧
  ∀ H' S ts, (∀ c o, H1 c = some o → H' c = some o) → H1 S = none → H' S = some (.lst ts) → ts.length = min xs.length ys.length → PairsIn H' ts xs ys → (∀ t ∈ ts, ∀ T, t = .ref T → H1 T = none) → Q (.ref S) H'
section
variable {X : Cx} {e e2 : Expr} {pos p pos2 p2 : Pos} {tl : DA}
theorem pe_zipL {ta : TA} (hc : X.calm = true) (gl : Gl X "list") (ml : X.mg "list" = none) (hg : Gl X "zip") (hm : X.mg "zip" = none) (ha : PA X [e, e2] ta)
    (hs : starEach [e, e2] X.env = (false, eval e X.env) :: starEach [e2] X.env := by rfl) (hpl : (backTo pos2 (starEach [e2] X.env)).any (·.1) = false := by rfl)
    (hs0 : starEach [.Call (.Name "zip" p2) [e, e2] [] pos2] X.env = (false, eval (.Call (.Name "zip" p2) [e, e2] [] pos2) X.env) :: starEach [] X.env := by rfl) (hpl0 : (backTo pos (starEach [] X.env)).any (·.1) = false := by rfl) :
    PE X (.Call (.Name "list" p) [.Call (.Name "zip" p2) [e, e2] [] pos2] [] pos) (tZipL X.K ta) := by
  refine ⟨fun pins s σ H Q I h => ?_⟩
  refine wpAny_Call_Name_kw (ld_blt I gl ml PyProof.Rows.boot_list ?_)
  refine PyProof.Rows.callWith_type1 ?_ hs0 hpl0
  rw [hs0]
  refine Calls.spliced_cons ?_
  refine Call_ (ld_blt I hg hm PyProof.Rows.boot_zip (PyProof.Rows.callWith_type1 (thn (ha.run pos2 pins s σ H _ I h) fun us s1 ⟨vs, H1, I1, r1, q1⟩ => ?_) hs hpl))
  obtain ⟨ka, kb, a, b, xs, ys, ex, hqx, hqy, q⟩ := q1
  subst ex
  cases r1 with
  | cons r rr =>
    cases rr with
    | cons r' rr =>
      cases rr
      cases r
      cases r'
      obtain ⟨its, rv, p1, l1⟩ := sqK_at I1 hqx
      obtain ⟨its2, rv2, p2, l2⟩ := sqK_at I1 hqy
      refine zip_begins2 (beginsK ka a its.toArray) (beginsK kb b its2.toArray) p1 p2 fun h' hz hTI hTO h1 h2 hsz hk => ?_
      refine Calls.spliced_nil ?_
      have I2 : Inv X pins σ H1 { s1 with heap := h' } := I1.kept (t' := s1.toks) hk
      have hxl : xs.length ≤ sizeLine := by
        cases ka with
        | l => obtain ⟨_, _, _, z⟩ := I1.list hqx; exact z
        | t => obtain ⟨_, _, _, z⟩ := I1.tuple hqx; exact z
      refine callType_codes (Q₁ := fun obj s₁ => obj = .ref h'.objs.size ∧ s₁ = { s1 with heap := h'.push { cls := .type "list", data := .seq #[] } }) PySem.F.called_list (PySem.F.typeCall_list_1 _) PySem.F.entry_list_init
        (code_list_new _ ⟨rfl, rfl⟩) fun obj s₁ h₁ => ?_
      obtain ⟨rfl, rfl⟩ := h₁
      have hSo : (h'.push { cls := .type "list", data := .seq #[] }).get? h'.objs.size = some { cls := .type "list", data := .seq #[] } := Heap.get?_push_size _ rfl
      have I3 : Inv X pins σ (upd H1 h'.objs.size (.lst [])) { s1 with heap := h'.push { cls := .type "list", data := .seq #[] } } := I2.lnew (t' := s1.toks) (its := []) (ys := []) .nil (Nat.zero_le _)
      have hSn : H1 h'.objs.size = none := I2.hok.fresh (Nat.le_refl _)
      have lt5 : ∀ c ∈ fpz (s1.heap.objs.size + 4) (s1.heap.objs.size + 2) (s1.heap.objs.size + 3) s1.heap.objs.size (s1.heap.objs.size + 1), s1.heap.objs.size ≤ c ∧ c < h'.objs.size := fun c hcm => by
        have e' : c = s1.heap.objs.size + 4 ∨ c = s1.heap.objs.size + 2 ∨ c = s1.heap.objs.size + 3 ∨ c = s1.heap.objs.size ∨ c = s1.heap.objs.size + 1 := by simpa [fpz] using hcm
        have hh5 : ∀ k, k < 5 → s1.heap.objs.size + k < h'.objs.size := fun k hk5 => by rw [hsz]; exact Nat.add_lt_add_left hk5 _
        rcases e' with q | q | q | q | q
        · rw [q]; exact ⟨Nat.le_add_right _ _, hh5 4 (by decide)⟩
        · rw [q]; exact ⟨Nat.le_add_right _ _, hh5 2 (by decide)⟩
        · rw [q]; exact ⟨Nat.le_add_right _ _, hh5 3 (by decide)⟩
        · rw [q]; exact ⟨Nat.le_refl _, hh5 0 (by decide)⟩
        · rw [q]; exact ⟨Nat.le_add_right _ _, hh5 1 (by decide)⟩
      have h5 : s1.heap.objs.size < h'.objs.size := by rw [hsz]; exact Nat.lt_add_of_pos_right (by decide)
      have up : ∀ c o, h'.get? c = some o → (h'.push { cls := .type "list", data := .seq #[] }).get? c = some o := fun c o e => Heap.get?_push_of_some _ e
      refine ⟨⟨_, hSo, rfl⟩, PySem.F.args_list_init_2 _ _, zl_init (A := X.A.in1) (I1.ok.hd hc) ka kb (PySem.W.ktu_apart s1.heap.objs.size a b l1 l2) rv rv2 (H0 := H1) hSn hxl (Nat.ne_of_gt (Nat.lt_trans l1 h5)) (Nat.ne_of_gt (Nat.lt_trans l2 h5)) I3 (fun c hcm => ?_) (up _ _ hz) (up _ _ hTI) ⟨_, _, up _ _ hTO⟩ (iterK_at (iterK_new h1) fun o q => up _ _ q) ?_ (iterK_at (iterK_new h2) fun o q => up _ _ q) ?_ (fun c o e => ?_) upd_same hSo fun H' ts s' I' hk' hS' hl' hp' hf' => ?_⟩
      · obtain ⟨g1, g2⟩ := lt5 c hcm
        refine I1.fpOk g1 ?_
        rw [upd_ne (Nat.ne_of_lt g2)]
        exact I1.hok.fresh g1
      · cases ka with
        | l => exact Heap.IsList.at p1 fun o q => up _ _ (hk _ _ q)
        | t => exact Heap.IsTuple.at p1 fun o q => up _ _ (hk _ _ q)
      · cases kb with
        | l => exact Heap.IsList.at p2 fun o q => up _ _ (hk _ _ q)
        | t => exact Heap.IsTuple.at p2 fun o q => up _ _ (hk _ _ q)
      · rw [upd_ne (ne_of_none e hSn)]; exact e
      · exact ⟨rfl, .ref h'.objs.size, H', I', rfl, q H' _ ts hk' hSn hS' hl' hp' hf'⟩
theorem At.grow {K : PySem.W.Frag} {as : List Addr} {M : Ms} {L H H' : Hp} (A : At K as M L H) (k : ∀ c o, H c = some o → H' c = some o) : ∃ L', Step as L H as L' H' ∧ At K as M L' H' ∧ ∀ c o, H c = none → H' c = some o → L' c = some o := by
  refine ⟨fun c => if H c = none then H' c else L c, ⟨fun c o _ h => k c o h, fun c o h => ?_, fun c h h' => ?_, Pre.refl _, fun _ h => .inl h⟩, ⟨fun c o h => ?_, A.len, A.nd, fun j a m h1 h2 => ?_⟩, fun c o h h' => ?_⟩
  · show (if H c = none then H' c else L c) = some o
    rw [if_neg (by rw [A.low c o h]; simp)]; exact h
  · show (if H c = none then H' c else L c) = none
    rw [if_neg h']; exact h
  · by_cases e : H c = none
    · have h2 : (if H c = none then H' c else L c) = some o := h
      rw [if_pos e] at h2; exact h2
    · have h2 : (if H c = none then H' c else L c) = some o := h
      rw [if_neg e] at h2; exact k c o (A.low c o h2)
  · obtain ⟨h3, o, h4, h5⟩ := A.mo j a m h1 h2
    refine ⟨?_, o, k a o h4, h5.mono (fun c o h => ?_) (Pre.refl _)⟩
    · show (if H a = none then H' a else L a) = none
      rw [if_neg (by rw [h4]; simp)]; exact h3
    · show (if H c = none then H' c else L c) = some o
      rw [if_neg (by rw [A.low c o h]; simp)]; exact h
  · show (if H c = none then H' c else L c) = some o
    rw [if_pos h]; exact h'
def dZipL (tl : DA) : DE := fun ρ M P => tl ρ M fun ds M1 => ∃ d e xs ys, ds = [d, e] ∧ isSeq d xs ∧ isSeq e ys ∧ P (.lst (pairs xs ys)) M1
theorem RpA.of {K : PySem.W.Frag} {as : List Addr} {L : Hp} : ∀ {vs : List V} {ds : List D}, vs.length = ds.length → (∀ (j : Nat) (v : V) (d : D), vs[j]? = some v → ds[j]? = some d → Rp K as L v d) → RpA K as L vs ds
  | [], [], _, _ => .nil
  | [], _ :: _, h, _ => by simp at h
  | _ :: _, [], h, _ => by simp at h
  | v :: vs, d :: ds, hl, h => .cons (h 0 v d rfl rfl) (RpA.of (by simpa using hl) fun j v' d' e1 e2 => h (j + 1) v' d' (by simpa using e1) (by simpa using e2))
theorem pd_zipL (hc : X.calm = true) (gl : Gl X "list") (ml : X.mg "list" = none) (hg : Gl X "zip") (hm : X.mg "zip" = none) (ha : PDA X [e, e2] tl)
    (hs : starEach [e, e2] X.env = (false, eval e X.env) :: starEach [e2] X.env := by rfl) (hpl : (backTo pos2 (starEach [e2] X.env)).any (·.1) = false := by rfl)
    (hs0 : starEach [.Call (.Name "zip" p2) [e, e2] [] pos2] X.env = (false, eval (.Call (.Name "zip" p2) [e, e2] [] pos2) X.env) :: starEach [] X.env := by rfl) (hpl0 : (backTo pos (starEach [] X.env)).any (·.1) = false := by rfl) :
    PD X (.Call (.Name "list" p) [.Call (.Name "zip" p2) [e, e2] [] pos2] [] pos) (dZipL tl) := by
  obtain ⟨u, pa, s⟩ := ha.ex
  refine ⟨_, pe_zipL hc gl ml hg hm pa hs hpl hs0 hpl0, ?_⟩
  intro as σ ρ L H M P Q hE A h q
  refine s as σ ρ L H M _ _ hE A h fun vs ds L1 H1 M1 s1 A1 h1 r1 => ?_
  obtain ⟨d, f, xs, ys, rfl, hd, hf, p⟩ := h1
  cases r1 with
  | cons ra rb =>
    cases rb with
    | cons rb rc =>
      cases rc
      obtain ⟨ka, a, xv, rfl, g1, w1⟩ := rp_seq ra hd
      obtain ⟨kb, b, yv, rfl, g2, w2⟩ := rp_seq rb hf
      refine ⟨ka, kb, a, b, xv, yv, rfl, ex_k A1.low g1, ex_k A1.low g2, fun H' S ts hk hS hS' hl hp hn => ?_⟩
      obtain ⟨L2, s2, A2, hL2⟩ := A1.grow hk
      refine q _ _ L2 H' M1 (s1.trans A1 s2) A2 p (.lst (.inl (.inl (hL2 _ _ hS hS'))) (RpA.of (by rw [hl, pairs_len, w1.length, w2.length]) fun j v dd e1 e3 => ?_))
      obtain ⟨T, x, y, rfl, hT, hx, hy⟩ := hp j v e1
      obtain ⟨dx, qx, rx⟩ := w1.getV hx
      obtain ⟨dy, qy, ry⟩ := w2.getV hy
      rw [pairs_get xs ys j dx dy qx qy] at e3
      cases e3
      exact .tup (.inl (.inl (hL2 _ _ (hn _ (List.mem_of_getElem? e1) T rfl) hT))) (.cons (rx.mono s2.k (Pre.refl _)) (.cons (ry.mono s2.k (Pre.refl _)) .nil))
end
end Pd

set_option Elab.async false
set_option linter.all false
set_option maxRecDepth 100000
set_option maxHeartbeats 1000000
namespace Pd
open PySem PySem.Spec PyProof.Rows L2
/-! ### walks read by invariants -/
theorem lc_map {g : DG} {te : DE} {ρ : Rho} {P : D → Ms → Prop} {M : Ms} (f : D → D) : ∀ (ds acc : List D), (∀ d ∈ ds, ∀ R : D → Ms → Prop, R (f d) M → g d ρ fun ρ' => te ρ' M R) → acc.length + ds.length ≤ sizeLine → P (.lst (acc ++ ds.map f)) M → lcRun g dYes te ρ P ds acc M
  | [], acc, _, _, p => by
    show P (.lst acc) M
    simpa using p
  | d :: r, acc, h, hz, p => by
    rw [List.length_cons] at hz
    have := h d List.mem_cons_self (fun y M2 => acc.length < sizeLine ∧ lcRun g dYes te ρ P r (acc ++ [y]) M2) ⟨by omega, lc_map f r (acc ++ [f d]) (fun d' h' => h d' (List.mem_cons_of_mem _ h')) (by rw [List.length_append, List.length_singleton]; omega) (by simpa using p)⟩
    exact this
theorem lc_ind {g : DG} {te : DE} {ρ : Rho} {P : D → Ms → Prop} (I : List D → Ms → Prop) (N : Nat) (hN : N ≤ sizeLine) (step : ∀ (d : D) (acc : List D) (M : Ms) (R : D → Ms → Prop), I acc M → acc.length < N → (∀ y M2, I (acc ++ [y]) M2 → R y M2) → g d ρ fun ρ' => te ρ' M R)
    (fin : ∀ acc M, I acc M → acc.length = N → P (.lst acc) M) : ∀ (ds acc : List D) (M : Ms), I acc M → acc.length + ds.length = N → lcRun g dYes te ρ P ds acc M
  | [], acc, M, h, hl => fin acc M h (by simpa using hl)
  | d :: r, acc, M, h, hl => by
    rw [List.length_cons] at hl
    exact step d acc M (fun y M2 => acc.length < sizeLine ∧ lcRun g dYes te ρ P r (acc ++ [y]) M2) h (by omega) fun y M2 hy => ⟨by omega, lc_ind I N hN step fin r (acc ++ [y]) M2 hy (by rw [List.length_append, List.length_singleton]; omega)⟩
theorem for_ind {g : DG} {body : DS} {De : DEnds} (I : Nat → Rho → Ms → Prop) (ds : List D) (step : ∀ (k : Nat) (d : D) (ρ : Rho) (M : Ms) (N : Rho → Ms → Prop), ds[k]? = some d → I k ρ M → (∀ ρ2 M2, I (k + 1) ρ2 M2 → N ρ2 M2) → g d ρ fun ρ' => body { De with nx := N, ct := N, bk := De.nx } ρ' M)
    (fin : ∀ ρ M, I ds.length ρ M → De.nx ρ M) {ρ : Rho} {M : Ms} (h : I 0 ρ M) : forRun g body De ds ρ M := by
  have key : ∀ (r : List D) (k : Nat) (ρ : Rho) (M : Ms), ds.drop k = r → k + r.length = ds.length → I k ρ M → forRun g body De r ρ M := by
    intro r
    induction r with
    | nil =>
      intro k ρ M _ hl h
      have e : k = ds.length := by simpa using hl
      subst e
      exact fin ρ M h
    | cons d r ih =>
      intro k ρ M hd hl h
      have hk : ds[k]? = some d := by
        have := congrArg (·[0]?) hd
        simpa using this
      rw [List.length_cons] at hl
      have hr : ds.drop (k + 1) = r := by
        have := congrArg List.tail hd
        simpa using this
      exact step k d ρ M (fun ρ2 M2 => forRun g body De r ρ2 M2) hk h fun ρ2 M2 h2 => ih (k + 1) ρ2 M2 hr (by omega) h2
  exact key ds 0 ρ M (by simp) (by simp) h
/-! ### lists of ints as data -/
abbrev dI (xs : List Int) : List D := xs.map D.int
theorem plain_ints : ∀ xs : List Int, plainA (dI xs) = true
  | [] => rfl
  | x :: xs => by show (true && plainA (dI xs)) = true; rw [plain_ints xs]; rfl
theorem lay_ints : ∀ xs : List Int, PyData.canLayAll0 (toPA (dI xs)) = true
  | [] => rfl
  | x :: xs => by show (true && PyData.canLayAll0 (toPA (dI xs))) = true; rw [lay_ints xs]; rfl
theorem depth_ints : ∀ xs : List Int, PyData.depthAll (toPA (dI xs)) = 0
  | [] => rfl
  | x :: xs => by show max 0 (PyData.depthAll (toPA (dI xs))) = 0; rw [depth_ints xs]; rfl
theorem okD_tup (xs : List Int) : okD (.tup (dI xs)) = true := by
  have h1 : plain (.tup (dI xs)) = true := plain_ints xs
  have h2 : SeqAt.shaped (toP (.tup (dI xs))) = true := by
    show (PyData.canLayAll0 (toPA (dI xs)) && decide (PyData.depthAll (toPA (dI xs)) + 1 ≤ 64)) = true
    rw [lay_ints, depth_ints]
    rfl
  unfold okD
  rw [h1, h2]
  rfl
theorem okD_lst (xs : List Int) : okD (.lst (dI xs)) = true := okD_tup xs
theorem eqA_ints : ∀ xs ys : List Int, PyData.eqvAll (toPA (dI xs)) (toPA (dI ys)) = decide (xs = ys)
  | [], [] => rfl
  | [], _ :: _ => rfl
  | _ :: _, [] => rfl
  | x :: xs, y :: ys => by
    show ((x == y) && PyData.eqvAll (toPA (dI xs)) (toPA (dI ys))) = _
    rw [eqA_ints xs ys, Bool.eq_iff_iff]
    simp
theorem eqD_tup (xs ys : List Int) : eqD (.tup (dI xs)) (.tup (dI ys)) = decide (xs = ys) := eqA_ints xs ys
theorem eqD_int (i j : Int) : eqD (.int i) (.int j) = decide (i = j) := by
  show (i == j) = _
  rw [Bool.eq_iff_iff]; simp
theorem eqD_bl (i j : Bool) : eqD (.bl i) (.bl j) = (i == j) := rfl
theorem okD_int (i : Int) : okD (.int i) = true := rfl
theorem okD_bl (b : Bool) : okD (.bl b) = true := rfl
theorem pd_fldK {X : Cx} {K : PySem.W.Frag} {e : Expr} {t : DE} {pos : Pos} {f : Str} (hK : X.K = K) (he : PD X e t) (hb : attributeBase e f X.env (eval e X.env) = eval e X.env := by rfl) : PD X (.Attribute e f pos) (dFld K t f) := hK ▸ pd_fld he hb
/-! ### is, of truth values -/
section
variable {K : PySem.W.Frag}
def oIsB : D2 := fun x y M P => ∃ a b : Bool, x = .bl a ∧ y = .bl b ∧ P (.bl (decide (a = b))) M
theorem sr_isB : SimR K rIsB oIsB := by
  intro as L H M x y d e P Q A r1 r2 ⟨a, b, h1, h2, p⟩ q
  subst h1; subst h2
  cases r1; cases r2
  exact ⟨a, b, rfl, rfl, q _ _ L H M .refl A p (.bl _)⟩
def oList : DC := fun xs M P => ∃ d ds, xs = [d] ∧ isSeq d ds ∧ P (.lst ds) M
theorem sc_list : SimC K (fun xs H Q => ∃ p ys, xs = [.ref p] ∧ (SqL K H p ys ∨ SqT K H p ys) ∧ ∀ l, H l = none → Q (.ref l) (upd H l (.lst ys))) oList := by
  intro as L H M xs ds P Q A r ⟨d, es, h, hd, p⟩ q
  subst h
  cases r with
  | cons r1 r2 =>
    cases r2
    rcases hd with rfl | rfl
    · cases r1 with
      | lst hs ra => exact ⟨_, _, rfl, .inl (ex_l A.low hs), fun l hl => q _ _ _ _ M (Step.know A hl) (A.know hl) p (.lst (.inl (.inl upd_same)) (ra.mono (Ex.new (lowfree A hl)) (Pre.refl _)))⟩
    · cases r1 with
      | tup hs ra => exact ⟨_, _, rfl, .inr (ex_t A.low hs), fun l hl => q _ _ _ _ M (Step.know A hl) (A.know hl) p (.lst (.inl (.inl upd_same)) (ra.mono (Ex.new (lowfree A hl)) (Pre.refl _)))⟩
end
/-- the changeable objects hold none that stands behind -/
def okM (M : Ms) : Prop := apartM M.length M = true
theorem okM_nil : okM [] := rfl
theorem apartA_ints (k : Nat) : ∀ xs : List Int, apartA k (dI xs) = true
  | [] => rfl
  | x :: xs => by show (true && apartA k (dI xs)) = true; rw [apartA_ints k xs]; rfl
theorem set_last {α : Type} (M : List α) (x y : α) : (M ++ [x]).set M.length y = M ++ [y] := by
  rw [List.set_append_right _ _ (Nat.le_refl _), Nat.sub_self]
  rfl
theorem get_last {α : Type} (M : List α) (x : α) : (M ++ [x])[M.length]? = some x := by
  rw [List.getElem?_append_right (Nat.le_refl _), Nat.sub_self]
  rfl
end Pd

set_option Elab.async false
set_option linter.all false
set_option maxRecDepth 100000
set_option maxHeartbeats 1000000
namespace Pd
open PySem PySem.Spec PyProof.Rows L2
theorem bsplit {b : Bool} {P Q : Prop} (h1 : b = true → P) (h0 : b = false → Q) : if b = true then P else Q := by
  cases b
  · exact h0 rfl
  · exact h1 rfl
/-! ### a def that ends by a new list -/
abbrev DN := (List D → Ms → Prop) → Rho → Ms → Prop
structure PDN (X : Cx) (sts : List Stmt) (t : DN) : Prop where
  ex : ∃ ts, PSs X sts ts ∧ ∀ as σ ρ L H M P D, En X.K as L σ ρ → At X.K as M L H → t P ρ M →
    (∀ p xs m L' H' M', Step as L H as L' H' → At X.K as M' L' H' → H p = none → L' p = none → H' p = some (.lst xs) → RpA X.K as L' xs m → P m M' → D.rt (.ref p) H') → ts D σ H
theorem Step.free {as : List Addr} {L H L1 H1 : Hp} {K : PySem.W.Frag} {M M1 : Ms} (A : At K as M L H) (s : Step as L H as L1 H1) (A1 : At K as M1 L1 H1) {p : Addr} (h : H1 p = none) : H p = none := by
  by_cases hp : p ∈ as
  · exact absurd h (A1.held hp).2
  · cases q : H p with
    | none => rfl
    | some o => rw [s.up p o hp q] at h; cases h
theorem At.hidden {K : PySem.W.Frag} {as : List Addr} {M : Ms} {L H : Hp} {p : Addr} {o : HO} (A : At K as M L H) (hp : H p = none) : At K as M L (upd H p o) := by
  have lp := lowfree A hp
  refine ⟨fun a u h => ?_, A.len, A.nd, fun k a m e1 e2 => ?_⟩
  · rw [upd_ne (fun z => by rw [z, lp] at h; cases h)]; exact A.low a u h
  · obtain ⟨h3, u, h4, h5⟩ := A.mo k a m e1 e2
    exact ⟨h3, u, by rw [upd_ne (ne_of_none h4 hp)]; exact h4, h5⟩
theorem Step.hidden {as : List Addr} {L H L1 H1 : Hp} {p : Addr} {o : HO} (s : Step as L H as L1 H1) (hp : H1 p = none) : Step as L H as L1 (upd H1 p o) :=
  ⟨fun a u ha h => by rw [upd_ne (ne_of_none (s.up a u ha h) hp)]; exact s.up a u ha h, s.k, s.hid, s.pre, s.new⟩
section
variable {X : Cx} {st : Stmt} {sts : List Stmt} {s1 : DS} {t : DN} {es : List Expr} {tl : DA} {pos pos' : Pos}
def nRet (tl : DA) : DN := fun P ρ M => tl ρ M fun ds M1 => ds.length ≤ sizeLine ∧ P ds M1
theorem pdn_ret (h : PDA X es tl) : PDN X [.Return (some (.List es pos)) pos'] (nRet tl) := by
  obtain ⟨u, p, s⟩ := h.ex
  refine ⟨_, pss_one (ps_ret (pe_lst p)), fun as σ ρ L H M P D hE A h k => ?_⟩
  refine s as σ ρ L H M _ _ hE A h fun vs ds L1 H1 M1 s1 A1 h1 r1 => ⟨by rw [r1.length]; exact h1.1, fun p hp => ?_⟩
  exact k p vs ds L1 _ M1 (s1.hidden hp) (A1.hidden hp) (Step.free A s1 A1 hp) (lowfree A1 hp) upd_same r1 h1.2
def nSeq (s : DS) (t : DN) : DN := fun P ρ M => s { nx := fun ρ' M' => t P ρ' M', rt := fun _ _ => False } ρ M
theorem pdn_cons (h1 : PDS X st s1) (h2 : PDN X sts t) : PDN X (st :: sts) (nSeq s1 t) := by
  obtain ⟨u1, p1, q1⟩ := h1.ex
  obtain ⟨u2, p2, q2⟩ := h2.ex
  refine ⟨_, pss_cons p1 p2, fun as σ ρ L H M P D hE A h k => ?_⟩
  refine sim_then (De := { nx := fun _ _ => False, rt := fun _ _ => False }) q1 hE A ⟨fun _ _ _ _ _ _ _ _ z => z.elim, fun _ _ _ _ _ _ _ z => z.elim, fun _ _ _ _ _ _ _ _ z => z.elim, fun _ _ _ _ _ _ _ _ z => z.elim⟩ (nx := fun ρ' M' => t P ρ' M') (fun σ' ρ' L' H' M' s' A' e' h' => ?_) h
  exact q2 as σ' ρ' L' H' M' P D e' A' h' fun p xs m L2 H2 M2 s2 A2 h0 l0 hx r q => k p xs m L2 H2 M2 (s'.trans A' s2) A2 (Step.free A s' A' h0) l0 hx r q
end
section
variable {X : Cx} {a b : Expr} {tl : DA} {pos : Pos}
/-- x, y = a, b -/
def sPar (i j : Nat) (tl : DA) : DS := fun De ρ M => tl ρ M fun ds M1 => ∃ d e, ds = [d, e] ∧ De.nx ((ρ.set i (some d)).set j (some e)) M1
theorem pds_par (i j : Nat) {x y : Str} {px py pt : Pos} {kt k2 pt2} (hc : X.calm = true) (hN : X.N.Nodup) (ha : PDA X [a, b] tl) (hij : i ≠ j) (hi : X.N[i]? = some x := by rfl) (hj : X.N[j]? = some y := by rfl)
    (hx : X.env.scope.names.lookup x = some .local := by rfl) (hy : X.env.scope.names.lookup y = some .local := by rfl)
    (hw : swappedStores [.Tuple [.Name x px, .Name y py] kt pt] (.Tuple [a, b] k2 pt2) X.env = pure (some [x, y]) := by rfl)
    (hs : swapsWithSole [.Tuple [.Name x px, .Name y py] kt pt] (.Tuple [a, b] k2 pt2) pos.line X.env = pure false := by rfl) :
    PDS X (.Assign [.Tuple [.Name x px, .Name y py] kt pt] (.Tuple [a, b] k2 pt2) pos) (sPar i j tl) := by
  obtain ⟨u, p, s⟩ := ha.ex
  refine ⟨_, ps_par hc hN hi hj hij hx hy p hw hs, ?_⟩
  intro as σ ρ L H M De D hE A h c
  refine s as σ ρ L H M _ _ hE A h fun vs ds L1 H1 M1 s1 A1 h1 r1 => ?_
  obtain ⟨d, e, rfl, q⟩ := h1
  cases r1 with
  | cons r2 r3 =>
    cases r3 with
    | cons r4 r5 =>
      cases r5
      exact ⟨_, _, rfl, c.nx _ _ L1 H1 M1 s1 A1 (((hE.mono s1.k s1.pre).set i r2).set j r4) q⟩
end
section
variable {P : Program} {w : World} {K : PySem.W.Frag} {mg : Str → Option Value} {base : Heap}
theorem pd_fnN {x qual : Str} {st : Stmt} {f : Addr} {fd : FuncData} {N ps : List Str} {k : Nat} {W : DCN} (F : Fun K x qual st f fd) (S : FnScope N ps (defScope st))
    (hbody : ∀ (cdv : Value) (A : Around) (outer : List Env) (s : Shared) (H : Hp) (E : XK), Room k (A.deeper (envOfC qual (defScope st) s.heap.objs.size f cdv)) →
      ∃ t, PDN (cxOf CX0 P w K mg base N qual (defScope st) f cdv A outer s H E).nox (defBody st) t ∧ ∀ ds M Q, ds.length = ps.length → W ds M Q → t Q (startD N ds) M) :
    FnOk P w K mg base CX0 (k + 1) f fd ps (spN ps.length W K) := by
  refine F.ok S (fun vs H Q E h => h.1) (fun cdv A outer s H vs Q E hr h => ?_)
  obtain ⟨hl, as, M, L, ds, P', r, A0, hw, q⟩ := h
  obtain ⟨t, ht, hb⟩ := hbody cdv A outer s H E hr
  obtain ⟨ts, pt, st'⟩ := ht.ex
  exact ⟨ts, pt, st' as (L2.start N vs) (startD N ds) L H M P' _ (en_start r) A0 (hb ds M P' (by rw [← r.length]; exact hl) hw) fun p xs m L' H' M' s' A' h0 l0 hx rx hp => q p xs m L' H' M' s' A' h0 l0 hx rx hp⟩
end
end Pd

set_option Elab.async false
set_option linter.all false
set_option maxRecDepth 100000
set_option maxHeartbeats 4000000
namespace K01
open PySem PySem.Spec PyProof.Rows L2 Pd
def topS (i : Nat) : Stmt := PySem.Challenge.pw_leastreads_k01_sums_calculated.main.body.getD i (.Pass ⟨0, 0, 0, 0⟩)
abbrev s_is_integer : Stmt := topS 1
theorem sc_is_integer : FnScope ["value"] ["value"] (defScope s_is_integer) := ⟨rfl, rfl, rfl, by decide +kernel, rfl, by decide +kernel, by decide +kernel⟩
abbrev s_is_between : Stmt := topS 2
theorem sc_is_between : FnScope ["value", "low", "high"] ["value", "low", "high"] (defScope s_is_between) := ⟨rfl, rfl, rfl, by decide +kernel, rfl, by decide +kernel, by decide +kernel⟩
abbrev s_has_items : Stmt := topS 3
theorem sc_has_items : FnScope ["value", "least", "most"] ["value", "least", "most"] (defScope s_has_items) := ⟨rfl, rfl, rfl, by decide +kernel, rfl, by decide +kernel, by decide +kernel⟩
abbrev s_all_between : Stmt := topS 4
theorem sc_all_between : FnScope ["items", "low", "high", "item"] ["items", "low", "high"] (defScope s_all_between) := ⟨rfl, rfl, rfl, by decide +kernel, rfl, by decide +kernel, by decide +kernel⟩
abbrev s_is_prime : Stmt := topS 13
theorem sc_is_prime : FnScope ["value"] ["value"] (defScope s_is_prime) := ⟨rfl, rfl, rfl, by decide +kernel, rfl, by decide +kernel, by decide +kernel⟩
abbrev s_is_size : Stmt := topS 14
theorem sc_is_size : FnScope ["prime", "value"] ["prime", "value"] (defScope s_is_size) := ⟨rfl, rfl, rfl, by decide +kernel, rfl, by decide +kernel, by decide +kernel⟩
abbrev s_is_data : Stmt := topS 15
theorem sc_is_data : FnScope ["prime", "size", "value"] ["prime", "size", "value"] (defScope s_is_data) := ⟨rfl, rfl, rfl, by decide +kernel, rfl, by decide +kernel, by decide +kernel⟩
abbrev s_expect_prime_and_size : Stmt := topS 16
theorem sc_expect_prime_and_size : FnScope ["prime", "size"] ["prime", "size"] (defScope s_expect_prime_and_size) := ⟨rfl, rfl, rfl, by decide +kernel, rfl, by decide +kernel, by decide +kernel⟩
abbrev s_is_sum : Stmt := topS 17
theorem sc_is_sum : FnScope ["prime", "size", "value"] ["prime", "size", "value"] (defScope s_is_sum) := ⟨rfl, rfl, rfl, by decide +kernel, rfl, by decide +kernel, by decide +kernel⟩
abbrev s_Sum_init : Stmt := inClass (topS 18) 0
theorem sc_Sum_init : FnScope ["self", "prime", "factors"] ["self", "prime", "factors"] (defScope s_Sum_init) := ⟨rfl, rfl, rfl, by decide +kernel, rfl, by decide +kernel, by decide +kernel⟩
abbrev s_Sum_unit : Stmt := inClass (topS 18) 1
theorem sc_Sum_unit : FnScope ["prime", "size", "index", "place"] ["prime", "size", "index"] (defScope s_Sum_unit) := ⟨rfl, rfl, rfl, by decide +kernel, rfl, by decide +kernel, by decide +kernel⟩
abbrev s_Sum_prime : Stmt := inClass (topS 18) 2
theorem sc_Sum_prime : FnScope ["self"] ["self"] (defScope s_Sum_prime) := ⟨rfl, rfl, rfl, by decide +kernel, rfl, by decide +kernel, by decide +kernel⟩
abbrev s_Sum_factors : Stmt := inClass (topS 18) 3
theorem sc_Sum_factors : FnScope ["self"] ["self"] (defScope s_Sum_factors) := ⟨rfl, rfl, rfl, by decide +kernel, rfl, by decide +kernel, by decide +kernel⟩
abbrev s_Sum_size : Stmt := inClass (topS 18) 4
theorem sc_Sum_size : FnScope ["self"] ["self"] (defScope s_Sum_size) := ⟨rfl, rfl, rfl, by decide +kernel, rfl, by decide +kernel, by decide +kernel⟩
abbrev s_Sum_is_zero : Stmt := inClass (topS 18) 5
theorem sc_Sum_is_zero : FnScope ["self"] ["self"] (defScope s_Sum_is_zero) := ⟨rfl, rfl, rfl, by decide +kernel, rfl, by decide +kernel, by decide +kernel⟩
abbrev s_Sum_call : Stmt := inClass (topS 18) 6
theorem sc_Sum_call : FnScope ["self", "data", "factor", "value"] ["self", "data"] (defScope s_Sum_call) := ⟨rfl, rfl, rfl, by decide +kernel, rfl, by decide +kernel, by decide +kernel⟩
abbrev s_Sum_add : Stmt := inClass (topS 18) 7
theorem sc_Sum_add : FnScope ["self", "other", "pairs", "one", "two"] ["self", "other"] (defScope s_Sum_add) := ⟨rfl, rfl, rfl, by decide +kernel, rfl, by decide +kernel, by decide +kernel⟩
abbrev s_Sum_sub : Stmt := inClass (topS 18) 8
theorem sc_Sum_sub : FnScope ["self", "other", "pairs", "one", "two"] ["self", "other"] (defScope s_Sum_sub) := ⟨rfl, rfl, rfl, by decide +kernel, rfl, by decide +kernel, by decide +kernel⟩
abbrev s_Sum_mul : Stmt := inClass (topS 18) 9
theorem sc_Sum_mul : FnScope ["self", "other", "factor"] ["self", "other"] (defScope s_Sum_mul) := ⟨rfl, rfl, rfl, by decide +kernel, rfl, by decide +kernel, by decide +kernel⟩
abbrev s_Sum_neg : Stmt := inClass (topS 18) 10
theorem sc_Sum_neg : FnScope ["self", "factor"] ["self"] (defScope s_Sum_neg) := ⟨rfl, rfl, rfl, by decide +kernel, rfl, by decide +kernel, by decide +kernel⟩
abbrev s_Sum_eq : Stmt := inClass (topS 18) 11
theorem sc_Sum_eq : FnScope ["self", "other"] ["self", "other"] (defScope s_Sum_eq) := ⟨rfl, rfl, rfl, by decide +kernel, rfl, by decide +kernel, by decide +kernel⟩
abbrev s_law_source : Stmt := topS 20
theorem sc_law_source : FnScope ["_law_script", "_law_turn", "_law_cell", "_law_number", "_law_seed"] ["_law_script", "_law_turn"] (defScope s_law_source) := ⟨rfl, rfl, rfl, by decide +kernel, rfl, by decide +kernel, by decide +kernel⟩
abbrev s_law_draw : Stmt := topS 21
theorem sc_law_draw : FnScope ["_law_source_here", "_law_amount", "_law_digit"] ["_law_source_here", "_law_amount"] (defScope s_law_draw) := ⟨rfl, rfl, rfl, by decide +kernel, rfl, by decide +kernel, by decide +kernel⟩
abbrev s_law_pick : Stmt := topS 22
theorem sc_law_pick : FnScope ["_law_source_here", "_law_items"] ["_law_source_here", "_law_items"] (defScope s_law_pick) := ⟨rfl, rfl, rfl, by decide +kernel, rfl, by decide +kernel, by decide +kernel⟩
abbrev s_law_all_data : Stmt := topS 23
theorem sc_law_all_data : FnScope ["_law_prime", "_law_size", "_law_found", "_law_place", "_law_longer", "_law_data", "_law_value_here"] ["_law_prime", "_law_size"] (defScope s_law_all_data) := ⟨rfl, rfl, rfl, by decide +kernel, rfl, by decide +kernel, by decide +kernel⟩
abbrev s_law_value : Stmt := topS 24
theorem sc_law_value : FnScope ["_law_factors_here", "_law_data", "_law_prime", "_law_one", "_law_two"] ["_law_factors_here", "_law_data", "_law_prime"] (defScope s_law_value) := ⟨rfl, rfl, rfl, by decide +kernel, rfl, by decide +kernel, by decide +kernel⟩
abbrev s_law_factors : Stmt := topS 25
theorem sc_law_factors : FnScope ["_law_source_here", "_law_prime", "_law_size", "_law_place"] ["_law_source_here", "_law_prime", "_law_size"] (defScope s_law_factors) := ⟨rfl, rfl, rfl, by decide +kernel, rfl, by decide +kernel, by decide +kernel⟩
abbrev s_law_form : Stmt := topS 26
theorem sc_law_form : FnScope ["_law_source_here"] ["_law_source_here"] (defScope s_law_form) := ⟨rfl, rfl, rfl, by decide +kernel, rfl, by decide +kernel, by decide +kernel⟩
abbrev s_law_sum_right : Stmt := topS 27
theorem sc_law_sum_right : FnScope ["_law_one", "_law_factors_here", "_law_prime", "_law_shown", "_law_data"] ["_law_one", "_law_factors_here", "_law_prime"] (defScope s_law_sum_right) := ⟨rfl, rfl, rfl, by decide +kernel, rfl, by decide +kernel, by decide +kernel⟩
abbrev s_law_pair_right : Stmt := topS 28
theorem sc_law_pair_right : FnScope ["_law_prime", "_law_one", "_law_other", "_law_number", "_law_both", "_law_less", "_law_times", "_law_first", "_law_second", "_law_low", "_law_high"] ["_law_prime", "_law_one", "_law_other", "_law_number"] (defScope s_law_pair_right) := ⟨rfl, rfl, rfl, by decide +kernel, rfl, by decide +kernel, by decide +kernel⟩
abbrev s_law : Stmt := topS 29
theorem sc_law : FnScope ["_law_script", "_law_turn", "_law_source_here", "_law_number", "_law_index", "_law_prime", "_law_size", "_law_one", "_law_other", "_law_unit", "_law_place"] ["_law_script"] (defScope s_law) := ⟨rfl, rfl, rfl, by decide +kernel, rfl, by decide +kernel, by decide +kernel⟩
/-- the primes, each with its greatest size -/
def gsz (p : Int) : Option Int := if p = 2 then some 6 else if p = 3 then some 6 else if p = 5 then some 5 else if p = 7 then some 4 else none
structure Tx (P : Program) (w : World) (K : PySem.W.Frag) (mg : Str → Option Value) where
  a_is_integer : Addr
  f_is_integer : FuncData
  F_is_integer : Fun K "is_integer" "is_integer" s_is_integer a_is_integer f_is_integer
  b_is_integer : Binds K f_is_integer ["value"] []
  g_is_integer : mg "is_integer" = some (.ref a_is_integer)
  a_is_between : Addr
  f_is_between : FuncData
  F_is_between : Fun K "is_between" "is_between" s_is_between a_is_between f_is_between
  b_is_between : Binds K f_is_between ["value", "low", "high"] []
  g_is_between : mg "is_between" = some (.ref a_is_between)
  a_has_items : Addr
  f_has_items : FuncData
  F_has_items : Fun K "has_items" "has_items" s_has_items a_has_items f_has_items
  b_has_items : Binds K f_has_items ["value", "least", "most"] []
  g_has_items : mg "has_items" = some (.ref a_has_items)
  a_all_between : Addr
  f_all_between : FuncData
  F_all_between : Fun K "all_between" "all_between" s_all_between a_all_between f_all_between
  b_all_between : Binds K f_all_between ["items", "low", "high"] []
  g_all_between : mg "all_between" = some (.ref a_all_between)
  a_is_prime : Addr
  f_is_prime : FuncData
  F_is_prime : Fun K "is_prime" "is_prime" s_is_prime a_is_prime f_is_prime
  b_is_prime : Binds K f_is_prime ["value"] []
  g_is_prime : mg "is_prime" = some (.ref a_is_prime)
  a_is_size : Addr
  f_is_size : FuncData
  F_is_size : Fun K "is_size" "is_size" s_is_size a_is_size f_is_size
  b_is_size : Binds K f_is_size ["prime", "value"] []
  g_is_size : mg "is_size" = some (.ref a_is_size)
  a_is_data : Addr
  f_is_data : FuncData
  F_is_data : Fun K "is_data" "is_data" s_is_data a_is_data f_is_data
  b_is_data : Binds K f_is_data ["prime", "size", "value"] []
  g_is_data : mg "is_data" = some (.ref a_is_data)
  a_expect_prime_and_size : Addr
  f_expect_prime_and_size : FuncData
  F_expect_prime_and_size : Fun K "expect_prime_and_size" "expect_prime_and_size" s_expect_prime_and_size a_expect_prime_and_size f_expect_prime_and_size
  b_expect_prime_and_size : Binds K f_expect_prime_and_size ["prime", "size"] []
  g_expect_prime_and_size : mg "expect_prime_and_size" = some (.ref a_expect_prime_and_size)
  a_is_sum : Addr
  f_is_sum : FuncData
  F_is_sum : Fun K "is_sum" "is_sum" s_is_sum a_is_sum f_is_sum
  b_is_sum : Binds K f_is_sum ["prime", "size", "value"] []
  g_is_sum : mg "is_sum" = some (.ref a_is_sum)
  a_Sum_init : Addr
  f_Sum_init : FuncData
  F_Sum_init : Fun K "__init__" "Sum.__init__" s_Sum_init a_Sum_init f_Sum_init
  b_Sum_init : Binds K f_Sum_init ["self", "prime", "factors"] []
  a_Sum_unit : Addr
  f_Sum_unit : FuncData
  F_Sum_unit : Fun K "unit" "Sum.unit" s_Sum_unit a_Sum_unit f_Sum_unit
  b_Sum_unit : Binds K f_Sum_unit ["prime", "size", "index"] []
  a_Sum_prime : Addr
  f_Sum_prime : FuncData
  F_Sum_prime : Fun K "prime" "Sum.prime" s_Sum_prime a_Sum_prime f_Sum_prime
  b_Sum_prime : Binds K f_Sum_prime ["self"] []
  a_Sum_factors : Addr
  f_Sum_factors : FuncData
  F_Sum_factors : Fun K "factors" "Sum.factors" s_Sum_factors a_Sum_factors f_Sum_factors
  b_Sum_factors : Binds K f_Sum_factors ["self"] []
  a_Sum_size : Addr
  f_Sum_size : FuncData
  F_Sum_size : Fun K "size" "Sum.size" s_Sum_size a_Sum_size f_Sum_size
  b_Sum_size : Binds K f_Sum_size ["self"] []
  a_Sum_is_zero : Addr
  f_Sum_is_zero : FuncData
  F_Sum_is_zero : Fun K "is_zero" "Sum.is_zero" s_Sum_is_zero a_Sum_is_zero f_Sum_is_zero
  b_Sum_is_zero : Binds K f_Sum_is_zero ["self"] []
  a_Sum_call : Addr
  f_Sum_call : FuncData
  F_Sum_call : Fun K "__call__" "Sum.__call__" s_Sum_call a_Sum_call f_Sum_call
  b_Sum_call : Binds K f_Sum_call ["self", "data"] []
  a_Sum_add : Addr
  f_Sum_add : FuncData
  F_Sum_add : Fun K "__add__" "Sum.__add__" s_Sum_add a_Sum_add f_Sum_add
  b_Sum_add : Binds K f_Sum_add ["self", "other"] []
  a_Sum_sub : Addr
  f_Sum_sub : FuncData
  F_Sum_sub : Fun K "__sub__" "Sum.__sub__" s_Sum_sub a_Sum_sub f_Sum_sub
  b_Sum_sub : Binds K f_Sum_sub ["self", "other"] []
  a_Sum_mul : Addr
  f_Sum_mul : FuncData
  F_Sum_mul : Fun K "__mul__" "Sum.__mul__" s_Sum_mul a_Sum_mul f_Sum_mul
  b_Sum_mul : Binds K f_Sum_mul ["self", "other"] []
  a_Sum_neg : Addr
  f_Sum_neg : FuncData
  F_Sum_neg : Fun K "__neg__" "Sum.__neg__" s_Sum_neg a_Sum_neg f_Sum_neg
  b_Sum_neg : Binds K f_Sum_neg ["self"] []
  a_Sum_eq : Addr
  f_Sum_eq : FuncData
  F_Sum_eq : Fun K "__eq__" "Sum.__eq__" s_Sum_eq a_Sum_eq f_Sum_eq
  b_Sum_eq : Binds K f_Sum_eq ["self", "other"] []
  a_law_source : Addr
  f_law_source : FuncData
  F_law_source : Fun K "_law_source" "_law_source" s_law_source a_law_source f_law_source
  b_law_source : Binds K f_law_source ["_law_script", "_law_turn"] []
  g_law_source : mg "_law_source" = some (.ref a_law_source)
  a_law_draw : Addr
  f_law_draw : FuncData
  F_law_draw : Fun K "_law_draw" "_law_draw" s_law_draw a_law_draw f_law_draw
  b_law_draw : Binds K f_law_draw ["_law_source_here", "_law_amount"] []
  g_law_draw : mg "_law_draw" = some (.ref a_law_draw)
  a_law_pick : Addr
  f_law_pick : FuncData
  F_law_pick : Fun K "_law_pick" "_law_pick" s_law_pick a_law_pick f_law_pick
  b_law_pick : Binds K f_law_pick ["_law_source_here", "_law_items"] []
  g_law_pick : mg "_law_pick" = some (.ref a_law_pick)
  a_law_all_data : Addr
  f_law_all_data : FuncData
  F_law_all_data : Fun K "_law_all_data" "_law_all_data" s_law_all_data a_law_all_data f_law_all_data
  b_law_all_data : Binds K f_law_all_data ["_law_prime", "_law_size"] []
  g_law_all_data : mg "_law_all_data" = some (.ref a_law_all_data)
  a_law_value : Addr
  f_law_value : FuncData
  F_law_value : Fun K "_law_value" "_law_value" s_law_value a_law_value f_law_value
  b_law_value : Binds K f_law_value ["_law_factors_here", "_law_data", "_law_prime"] []
  g_law_value : mg "_law_value" = some (.ref a_law_value)
  a_law_factors : Addr
  f_law_factors : FuncData
  F_law_factors : Fun K "_law_factors" "_law_factors" s_law_factors a_law_factors f_law_factors
  b_law_factors : Binds K f_law_factors ["_law_source_here", "_law_prime", "_law_size"] []
  g_law_factors : mg "_law_factors" = some (.ref a_law_factors)
  a_law_form : Addr
  f_law_form : FuncData
  F_law_form : Fun K "_law_form" "_law_form" s_law_form a_law_form f_law_form
  b_law_form : Binds K f_law_form ["_law_source_here"] []
  g_law_form : mg "_law_form" = some (.ref a_law_form)
  a_law_sum_right : Addr
  f_law_sum_right : FuncData
  F_law_sum_right : Fun K "_law_sum_right" "_law_sum_right" s_law_sum_right a_law_sum_right f_law_sum_right
  b_law_sum_right : Binds K f_law_sum_right ["_law_one", "_law_factors_here", "_law_prime"] []
  g_law_sum_right : mg "_law_sum_right" = some (.ref a_law_sum_right)
  a_law_pair_right : Addr
  f_law_pair_right : FuncData
  F_law_pair_right : Fun K "_law_pair_right" "_law_pair_right" s_law_pair_right a_law_pair_right f_law_pair_right
  b_law_pair_right : Binds K f_law_pair_right ["_law_prime", "_law_one", "_law_other", "_law_number"] []
  g_law_pair_right : mg "_law_pair_right" = some (.ref a_law_pair_right)
  a_law : Addr
  f_law : FuncData
  F_law : Fun K "law" "law" s_law a_law f_law
  b_law : Binds K f_law ["_law_script"] []
  g_law : mg "law" = some (.ref a_law)
  a_Sum : Addr
  g_Sum : mg "Sum" = some (.ref a_Sum)
  n_isinstance : mg "isinstance" = none
  n_int : mg "int" = none
  n_bool : mg "bool" = none
  n_list : mg "list" = none
  n_tuple : mg "tuple" = none
  n_len : mg "len" = none
  n_all : mg "all" = none
  n_any : mg "any" = none
  n_sum : mg "sum" = none
  n_zip : mg "zip" = none
  n_max : mg "max" = none
  n_min : mg "min" = none
  n_range : mg "range" = none
  c_Sum : ClsI K a_Sum
  m_Sum : Mk K a_Sum a_Sum_init
  sf_Sum : PySem.W.selfFirst K a_Sum = true
  o_add : PySem.W.findIn K (.ref a_Sum) "__add__" = some (some (.ref a_Sum_add))
  i_add : PySem.W.isFn K (.ref a_Sum_add) = true
  o_sub : PySem.W.findIn K (.ref a_Sum) "__sub__" = some (some (.ref a_Sum_sub))
  i_sub : PySem.W.isFn K (.ref a_Sum_sub) = true
  o_mul : PySem.W.findIn K (.ref a_Sum) "__mul__" = some (some (.ref a_Sum_mul))
  i_mul : PySem.W.isFn K (.ref a_Sum_mul) = true
  o_rmul : PySem.W.findIn K (.ref a_Sum) "__rmul__" = some none
  ii_mul : ∃ fo, PySem.W.findIn K (.type "int") "__mul__" = some fo
  ii_rmul : ∃ fo, PySem.W.findIn K (.type "int") "__rmul__" = some fo
  ii_sub : PySem.W.subIn K (.type "int") (.ref a_Sum) = some false
  o_neg : PySem.W.findIn K (.ref a_Sum) "__neg__" = some (some (.ref a_Sum_neg))
  i_neg : PySem.W.isFn K (.ref a_Sum_neg) = true
  o_eq : PySem.W.findIn K (.ref a_Sum) "__eq__" = some (some (.ref a_Sum_eq))
  i_eq : PySem.W.isFn K (.ref a_Sum_eq) = true
  o_ne : PySem.W.findIn K (.ref a_Sum) "__ne__" = some (some (.builtin "object.__ne__"))
  nf_tuple : PySem.W.notFirst K a_Sum (.type "tuple") = true
  nf_Sum : PySem.W.notFirst K a_Sum (.ref a_Sum) = true
  kt_tuple : PySem.W.kitOne K (.type "tuple") (.ref a_Sum) = some false
  kt_Sum : PySem.W.kitOne K (.ref a_Sum) (.ref a_Sum) = some true
  call_Sum : StX.CallO K a_Sum a_Sum_call
  na_prime : NoAttr K a_Sum "_prime"
  na_factors : NoAttr K a_Sum "_factors"
  mc : Value
  q_unit : Addr
  sm_unit : SMet K a_Sum mc "unit" q_unit a_Sum_unit
  a_GS : Addr
  g_GS : mg "GREATEST_SIZES" = some (.ref a_GS)
  d_GS : IntD K P w a_GS gsz
  q_prime : Addr
  pp_prime : PropOf K a_Sum "prime" q_prime a_Sum_prime
  q_factors : Addr
  pp_factors : PropOf K a_Sum "factors" q_factors a_Sum_factors
  q_size : Addr
  pp_size : PropOf K a_Sum "size" q_size a_Sum_size
  q_is_zero : Addr
  pp_is_zero : PropOf K a_Sum "is_zero" q_is_zero a_Sum_is_zero
theorem gsz_pos {p g : Int} (h : gsz p = some g) : 2 ≤ p ∧ p ≤ 7 ∧ g ≤ 6 := by
  unfold gsz at h
  split at h
  · cases h; omega
  split at h
  · cases h; omega
  split at h
  · cases h; omega
  split at h
  · cases h; omega
  · cases h
/-- factors of a sum; data -/
def In (p : Int) (xs : List Int) : Prop := ∀ x ∈ xs, 0 ≤ x ∧ x < p
def SumOk (p : Int) (fs : List Int) : Prop := ∃ g, gsz p = some g ∧ 1 ≤ (fs.length : Int) ∧ (fs.length : Int) ≤ g ∧ In p fs
def dSum (C : Addr) (p : Int) (fs : List Int) : D := .ins C [("_prime", .int p), ("_factors", .tup (dI fs))]
theorem In.all {p : Int} {xs : List Int} (h : In p xs) : (xs.all fun x => decide (0 ≤ x) && decide (x ≤ p - 1)) = true := by
  rw [List.all_eq_true]
  intro x hx
  have := h x hx
  simp only [Bool.and_eq_true, decide_eq_true_eq]
  omega
end K01

set_option Elab.async false
set_option linter.all false
set_option maxRecDepth 100000
set_option maxHeartbeats 4000000
namespace K01
open PySem PySem.Spec PyProof.Rows L2 Pd
section
variable {P : Program} {w : World} {K : PySem.W.Frag} {mg : Str → Option Value} {base : Heap}
/-! ### the program's first file -/
def isI : D → Bool | .int _ => true | _ => false
/-- the built-in type of data -/
def tyN : D → Option String
  | .non => some "NoneType" | .bl _ => some "bool" | .int _ => some "int" | .str _ => some "str" | .lst _ => some "list" | .tup _ => some "tuple" | _ => none
theorem dty {d : D} {t : String} (h : tyN d = some t) : DTy K d (.type t) := by
  cases d <;> simp only [tyN, Option.some.injEq, reduceCtorEq] at h <;> subst h <;> constructor
def W_is_integer : DC := fun ds M Q => ∃ d t, ds = [d] ∧ tyN d = some t ∧ Q (.bl (isI d)) M
theorem ok_is_integer (T : Tx P w K mg) : FnOk P w K mg base CX0 1 T.a_is_integer T.f_is_integer ["value"] (spD 1 W_is_integer K) := by
  refine pd_fn T.F_is_integer sc_is_integer (fun cdv A outer s H E hr => ⟨_, (pdss_one (pds_ret (pd_and (pd_callB call_isi sc_isi (by rfl) T.n_isinstance (by decide +kernel) (pda_cons (pd_name 0) (pda_cons (pd_bltn (v := .ty "int") (d := .ty "int") (by rfl) T.n_int (by decide +kernel) rfl (fun _ _ => .ty _)) pda_nil))) (pd_one (pd_not (pd_callB call_isi sc_isi (by rfl) T.n_isinstance (by decide +kernel) (pda_cons (pd_name 0) (pda_cons (pd_bltn (v := .ty "bool") (d := .ty "bool") (by rfl) T.n_bool (by decide +kernel) rfl (fun _ _ => .ty _)) pda_nil)))))))), fun ds M Q hl h => ?_⟩)
  obtain ⟨d, t, rfl, ht, q⟩ := h
  refine ⟨d, rfl, ?_⟩
  have hd := dty (K := K) ht
  cases d <;> simp only [tyN, Option.some.injEq, reduceCtorEq] at ht <;> subst ht
  case int i =>
    refine ⟨_, _, _, _, _, true, rfl, hd, .ty "int", kit_ty (by decide +kernel), _, rfl, ?_⟩
    refine ⟨_, rfl, _, _, _, _, _, false, rfl, hd, .ty "bool", kit_ty (by decide +kernel), _, rfl, q⟩
  case bl b =>
    refine ⟨_, _, _, _, _, true, rfl, hd, .ty "int", kit_ty (by decide +kernel), _, rfl, ?_⟩
    refine ⟨_, rfl, _, _, _, _, _, true, rfl, hd, .ty "bool", kit_ty (by decide +kernel), _, rfl, q⟩
  all_goals
    refine ⟨_, _, _, _, _, false, rfl, hd, .ty "int", kit_ty (by decide +kernel), _, rfl, q⟩
def W_is_between : DC := fun ds M Q => ∃ d t lo hi, ds = [d, .int lo, .int hi] ∧ tyN d = some t ∧ (∀ i, d = .int i → Q (.bl (decide (lo ≤ i) && decide (i ≤ hi))) M) ∧ (isI d = false → Q (.bl false) M)
theorem ok_is_between (T : Tx P w K mg) : FnOk P w K mg base CX0 2 T.a_is_between T.f_is_between ["value", "low", "high"] (spD 3 W_is_between K) := by
  refine pd_fn T.F_is_between sc_is_between (fun cdv A outer s H E hr => ⟨_, (pdss_one (pds_ret (pd_and (pd_call (ok_is_integer T) (hr.mono (by decide)) (by rfl) T.g_is_integer T.F_is_integer.kp T.b_is_integer (pda_cons (pd_name 0) pda_nil)) (pd_one (pd_chain op_le sr_I0b op_le sr_I0b (pd_name 1) (pd_name 0) (pd_name 2)))))), fun ds M Q hl h => ?_⟩)
  obtain ⟨d, t, lo, hi, rfl, ht, q1, q2⟩ := h
  refine ⟨d, rfl, rfl, d, t, rfl, ht, _, rfl, ?_⟩
  cases e : isI d with
  | false => exact q2 e
  | true =>
    cases d <;> simp only [isI, reduceCtorEq] at e
    rename_i i
    refine ⟨_, rfl, _, rfl, _, _, rfl, rfl, _, rfl, ?_⟩
    have q := q1 i rfl
    by_cases h1 : lo ≤ i
    · rw [decide_eq_true h1] at q ⊢
      exact ⟨_, rfl, _, _, rfl, rfl, q⟩
    · rw [decide_eq_false h1] at q ⊢
      exact q
def W_has_items : DC := fun ds M Q => ∃ d xs lo hi, ds = [d, .int lo, .int hi] ∧ isSeq d xs ∧ Q (.bl (decide (lo ≤ (xs.length : Int)) && decide ((xs.length : Int) ≤ hi))) M
theorem ok_has_items (T : Tx P w K mg) : FnOk P w K mg base CX0 1 T.a_has_items T.f_has_items ["value", "least", "most"] (spD 3 W_has_items K) := by
  refine pd_fn T.F_has_items sc_has_items (fun cdv A outer s H E hr => ⟨_, (pdss_one (pds_ret (pd_and (pd_isi2 (T1 := "list") (T2 := "tuple") (by rfl) T.n_isinstance (pd_name 0) (by rfl) T.n_list (by decide +kernel) (by rfl) T.n_tuple (by decide +kernel)) (pd_one (pd_chain op_le sr_I0b op_le sr_I0b (pd_name 1) (pd_callB call_len_seq sc_len (by rfl) T.n_len (by decide +kernel) (pda_cons (pd_name 0) pda_nil)) (pd_name 2)))))), fun ds M Q hl h => ?_⟩)
  obtain ⟨d, xs, lo, hi, rfl, hs, q⟩ := h
  obtain ⟨t, h1, h2⟩ : ∃ t, DTy K d (.type t) ∧ PySem.W.kitAny K (.type t) [.type "list", .type "tuple"] = some true := by
    rcases hs with rfl | rfl
    · exact ⟨"list", .lst _, rfl⟩
    · exact ⟨"tuple", .tup _, rfl⟩
  refine ⟨d, rfl, .type t, true, h1, h2, true, rfl, ?_⟩
  refine ⟨_, rfl, d, rfl, xs, ?_, _, _, rfl, rfl, _, rfl, ?_⟩
  · rcases hs with rfl | rfl
    · exact .inl rfl
    · exact .inr rfl
  · by_cases h1 : lo ≤ (xs.length : Int)
    · rw [decide_eq_true h1] at q ⊢
      exact ⟨_, rfl, _, _, rfl, rfl, q⟩
    · rw [decide_eq_false h1] at q ⊢
      exact q
end
end K01

set_option Elab.async false
set_option linter.all false
set_option maxRecDepth 100000
set_option maxHeartbeats 4000000
namespace K01
open PySem PySem.Spec PyProof.Rows L2 Pd
section
variable {P : Program} {w : World} {K : PySem.W.Frag} {mg : Str → Option Value} {base : Heap}
def W_all_between : DC := fun ds M Q => ∃ d xs lo hi, ds = [d, .int lo, .int hi] ∧ isSeq d (dI xs) ∧ xs.length ≤ sizeLine ∧ Q (.bl (xs.all fun x => decide (lo ≤ x) && decide (x ≤ hi))) M
theorem ok_all_between (T : Tx P w K mg) : FnOk P w K mg base CX0 3 T.a_all_between T.f_all_between ["items", "low", "high"] (spD 3 W_all_between K) := by
  refine pd_fn T.F_all_between sc_all_between (fun cdv A outer s H E hr => ⟨_, (pdss_one (pds_ret (pd_callB (cr_all rfl) sc_all (by rfl) T.n_all (by decide +kernel) (pda_cons (pd_lc [("item", 3)] rfl sc_all_between.nd (pdi_seq (pd_name 0)) (blkOk_by (N := ["items", "low", "high", "item"]) (sc := defScope s_all_between) (by decide +kernel)) (fun _ _ _ _ _ => (pdg_name 3 sc_all_between.nd)) (fun _ _ _ _ _ => pdts_nil) (fun _ _ _ _ _ => (pd_call (ok_is_between T) (hr.mono (by decide)) (by rfl) T.g_is_between T.F_is_between.kp T.b_is_between (pda_cons (pd_name 3) (pda_cons (pd_name 1) (pda_cons (pd_name 2) pda_nil)))))) pda_nil)))), fun ds M Q hl h => ?_⟩)
  obtain ⟨d, xs, lo, hi, rfl, hs, hz, q⟩ := h
  refine ⟨d, rfl, dI xs, hs, lc_map (fun d => match d with | .int x => .bl (decide (lo ≤ x) && decide (x ≤ hi)) | d => d) _ _ (fun d hd R hR => ?_) (by simpa using hz) ?_⟩
  · obtain ⟨x, hx, rfl⟩ := List.mem_map.mp hd
    refine ⟨.int x, rfl, .int lo, rfl, .int hi, rfl, rfl, .int x, "int", lo, hi, rfl, rfl, fun i e => ?_, fun e => ?_⟩
    · cases e; exact hR
    · cases e
  · refine ⟨xs.map fun x => decide (lo ≤ x) && decide (x ≤ hi), ?_, ?_⟩
    · rw [List.nil_append, List.map_map, List.map_map]
      rfl
    · rw [List.all_map]
      exact q
def W_is_prime : DC := fun ds M Q => ∃ p, ds = [.int p] ∧ Q (.bl (gsz p).isSome) M
theorem ok_is_prime (T : Tx P w K mg) : FnOk P w K mg base CX0 2 T.a_is_prime T.f_is_prime ["value"] (spD 1 W_is_prime K) := by
  refine pd_fn T.F_is_prime sc_is_prime (fun cdv A outer s H E hr => ⟨_, (pdss_one (pds_ret (pd_and (pd_call (ok_is_integer T) (hr.mono (by decide)) (by rfl) T.g_is_integer T.F_is_integer.kp T.b_is_integer (pda_cons (pd_name 0) pda_nil)) (pd_one (pd_cmp (op_in_id T.d_GS) sr_inD (pd_name 0) (pd_glob (v := .ref T.a_GS) (d := .ob T.a_GS) (by rfl) T.g_GS rfl (fun _ _ => .ob _)) (by rfl)))))), fun ds M Q hl h => ?_⟩)
  obtain ⟨p, rfl, q⟩ := h
  exact ⟨.int p, rfl, rfl, .int p, "int", rfl, rfl, true, rfl, .int p, rfl, p, rfl, rfl, q⟩
def W_is_size : DC := fun ds M Q => ∃ p g n, ds = [.int p, .int n] ∧ gsz p = some g ∧ Q (.bl (decide (1 ≤ n) && decide (n ≤ g))) M
theorem ok_is_size (T : Tx P w K mg) : FnOk P w K mg base CX0 3 T.a_is_size T.f_is_size ["prime", "value"] (spD 2 W_is_size K) := by
  refine pd_fn T.F_is_size sc_is_size (fun cdv A outer s H E hr => ⟨_, (pdss_one (pds_ret (pd_and (pd_call (ok_is_prime T) (hr.mono (by decide)) (by rfl) T.g_is_prime T.F_is_prime.kp T.b_is_prime (pda_cons (pd_name 0) pda_nil)) (pd_one (pd_call (ok_is_between T) (hr.mono (by decide)) (by rfl) T.g_is_between T.F_is_between.kp T.b_is_between (pda_cons (pd_name 1) (pda_cons pd_int (pda_cons (pd_ix (ix_id T.d_GS) sr_ixD (pd_glob (v := .ref T.a_GS) (d := .ob T.a_GS) (by rfl) T.g_GS rfl (fun _ _ => .ob _)) (pd_name 0)) pda_nil)))))))), fun ds M Q hl h => ?_⟩)
  obtain ⟨p, g, n, rfl, hg, q⟩ := h
  refine ⟨.int p, rfl, rfl, p, rfl, true, by rw [hg]; rfl, .int n, rfl, .int p, rfl, p, g, rfl, rfl, hg, rfl, .int n, "int", 1, g, rfl, rfl, fun i e => ?_, fun e => ?_⟩
  · cases e; exact q
  · cases e
def W_is_data : DC := fun ds M Q => ∃ p n d xs, ds = [.int p, .int n, d] ∧ SumOk p xs ∧ isSeq d (dI xs) ∧ n = (xs.length : Int) ∧ Q (.bl true) M
theorem small {p : Int} {fs : List Int} (h : SumOk p fs) : fs.length ≤ 6 := by
  obtain ⟨g, h1, h2, h3, _⟩ := h
  have := gsz_pos h1
  omega
theorem small' {p : Int} {fs : List Int} (h : SumOk p fs) : fs.length ≤ sizeLine := Nat.le_trans (small h) (by decide)
theorem ok_is_data (T : Tx P w K mg) : FnOk P w K mg base CX0 4 T.a_is_data T.f_is_data ["prime", "size", "value"] (spD 3 W_is_data K) := by
  refine pd_fn T.F_is_data sc_is_data (fun cdv A outer s H E hr => ⟨_, (pdss_one (pds_ret (pd_and (pd_call (ok_is_size T) (hr.mono (by decide)) (by rfl) T.g_is_size T.F_is_size.kp T.b_is_size (pda_cons (pd_name 0) (pda_cons (pd_name 1) pda_nil))) (pd_and (pd_call (ok_has_items T) (hr.mono (by decide)) (by rfl) T.g_has_items T.F_has_items.kp T.b_has_items (pda_cons (pd_name 2) (pda_cons (pd_name 1) (pda_cons (pd_name 1) pda_nil)))) (pd_one (pd_call (ok_all_between T) (hr.mono (by decide)) (by rfl) T.g_all_between T.F_all_between.kp T.b_all_between (pda_cons (pd_name 2) (pda_cons pd_int (pda_cons (pd_op op_sub sr_I0i (pd_name 0) pd_int) pda_nil))))))))), fun ds M Q hl h => ?_⟩)
  obtain ⟨p, n, d, xs, rfl, hx, hs, rfl, q⟩ := h
  obtain ⟨g, h1, h2, h3, h4⟩ := id hx
  refine ⟨.int p, rfl, .int _, rfl, rfl, p, g, _, rfl, h1, true, by rw [decide_eq_true h2, decide_eq_true h3]; rfl, ?_⟩
  refine ⟨d, rfl, .int _, rfl, .int _, rfl, rfl, d, _, _, _, rfl, hs, true, by rw [List.length_map, decide_eq_true (Int.le_refl _)]; rfl, ?_⟩
  refine ⟨d, rfl, .int p, rfl, p, 1, rfl, rfl, rfl, d, xs, 0, p - 1, rfl, hs, small' hx, ?_⟩
  rw [h4.all]
  exact q
def W_expect : DC := fun ds M Q => ∃ p g n, ds = [.int p, .int n] ∧ gsz p = some g ∧ 1 ≤ n ∧ n ≤ g ∧ Q .non M
theorem ok_expect_prime_and_size (T : Tx P w K mg) : FnOk P w K mg base CX0 4 T.a_expect_prime_and_size T.f_expect_prime_and_size ["prime", "size"] (spD 2 W_expect K) := by
  refine pd_fn T.F_expect_prime_and_size sc_expect_prime_and_size (fun cdv A outer s H E hr => ⟨_, (pdss_cons (pds_if (pdt_not (pdt_val (pd_call (ok_is_prime T) (hr.mono (by decide)) (by rfl) T.g_is_prime T.F_is_prime.kp T.b_is_prime (pda_cons (pd_name 0) pda_nil)))) (pdss_one pds_never) pdss_nil)
      (pdss_one (pds_if (pdt_not (pdt_val (pd_call (ok_is_size T) (hr.mono (by decide)) (by rfl) T.g_is_size T.F_is_size.kp T.b_is_size (pda_cons (pd_name 0) (pda_cons (pd_name 1) pda_nil))))) (pdss_one pds_never) pdss_nil))), fun ds M Q hl h => ?_⟩)
  obtain ⟨p, g, n, rfl, hg, h1, h2, q⟩ := h
  refine ⟨.int p, rfl, rfl, p, rfl, true, by rw [hg]; rfl, ?_⟩
  refine ⟨.int p, rfl, .int n, rfl, rfl, p, g, n, rfl, hg, true, by rw [decide_eq_true h1, decide_eq_true h2]; rfl, ?_⟩
  exact q
/-! ### the class -/
theorem dty_sum (T : Tx P w K mg) (p : Int) (fs : List Int) : DTy K (dSum T.a_Sum p fs) (.ref T.a_Sum) := .ins T.c_Sum
def W_prime (C : Addr) : DC := fun ds M Q => ∃ p fs, ds = [dSum C p fs] ∧ Q (.int p) M
theorem ok_Sum_prime (T : Tx P w K mg) : FnOk P w K mg base CX0 1 T.a_Sum_prime T.f_Sum_prime ["self"] (spD 1 (W_prime T.a_Sum) K) := by
  refine pd_fn T.F_Sum_prime sc_Sum_prime (fun cdv A outer s H E hr => ⟨_, (pdss_one (pds_ret (pd_fldK (K := K) rfl (pd_name 0)))), fun ds M Q hl h => ?_⟩)
  obtain ⟨p, fs, rfl, q⟩ := h
  exact ⟨_, rfl, _, _, _, rfl, T.c_Sum.cl, T.na_prime, rfl, q⟩
def W_factors (C : Addr) : DC := fun ds M Q => ∃ p fs, ds = [dSum C p fs] ∧ Q (.tup (dI fs)) M
theorem ok_Sum_factors (T : Tx P w K mg) : FnOk P w K mg base CX0 1 T.a_Sum_factors T.f_Sum_factors ["self"] (spD 1 (W_factors T.a_Sum) K) := by
  refine pd_fn T.F_Sum_factors sc_Sum_factors (fun cdv A outer s H E hr => ⟨_, (pdss_one (pds_ret (pd_fldK (K := K) rfl (pd_name 0)))), fun ds M Q hl h => ?_⟩)
  obtain ⟨p, fs, rfl, q⟩ := h
  exact ⟨_, rfl, _, _, _, rfl, T.c_Sum.cl, T.na_factors, rfl, q⟩
def W_size (C : Addr) : DC := fun ds M Q => ∃ p fs, ds = [dSum C p fs] ∧ Q (.int fs.length) M
theorem ok_Sum_size (T : Tx P w K mg) : FnOk P w K mg base CX0 1 T.a_Sum_size T.f_Sum_size ["self"] (spD 1 (W_size T.a_Sum) K) := by
  refine pd_fn T.F_Sum_size sc_Sum_size (fun cdv A outer s H E hr => ⟨_, (pdss_one (pds_ret (pd_callB call_len_seq sc_len (by rfl) T.n_len (by decide +kernel) (pda_cons (pd_fldK (K := K) rfl (pd_name 0)) pda_nil)))), fun ds M Q hl h => ?_⟩)
  obtain ⟨p, fs, rfl, q⟩ := h
  refine ⟨_, rfl, _, _, _, rfl, T.c_Sum.cl, T.na_factors, rfl, _, .inr rfl, ?_⟩
  rw [List.length_map]
  exact q
def W_is_zero (C : Addr) : DC := fun ds M Q => ∃ p fs, ds = [dSum C p fs] ∧ Q (.bl (!(fs.any fun n => n != 0))) M
theorem ok_Sum_is_zero (T : Tx P w K mg) : FnOk P w K mg base CX0 1 T.a_Sum_is_zero T.f_Sum_is_zero ["self"] (spD 1 (W_is_zero T.a_Sum) K) := by
  refine pd_fn T.F_Sum_is_zero sc_Sum_is_zero (fun cdv A outer s H E hr => ⟨_, (pdss_one (pds_ret (pd_not (pd_callB (cr_anyT rfl) sc_anyT (by rfl) T.n_any (by decide +kernel) (pda_cons (pd_fldK (K := K) rfl (pd_name 0)) pda_nil))))), fun ds M Q hl h => ?_⟩)
  obtain ⟨p, fs, rfl, q⟩ := h
  exact ⟨_, rfl, _, _, _, rfl, T.c_Sum.cl, T.na_factors, rfl, fs, rfl, _, rfl, q⟩
def W_is_sum (C : Addr) : DC := fun ds M Q => ∃ p fs n, ds = [.int p, .int n, dSum C p fs] ∧ n = (fs.length : Int) ∧ Q (.bl true) M
theorem ok_is_sum (T : Tx P w K mg) : FnOk P w K mg base CX0 3 T.a_is_sum T.f_is_sum ["prime", "size", "value"] (spD 3 (W_is_sum T.a_Sum) K) := by
  refine pd_fn T.F_is_sum sc_is_sum (fun cdv A outer s H E hr => ⟨_, (pdss_one (pds_ret (pd_and (pd_callB call_isi sc_isi (by rfl) T.n_isinstance (by decide +kernel) (pda_cons (pd_name 2) (pda_cons (pd_glob (v := .ref T.a_Sum) (d := .ob T.a_Sum) (by rfl) T.g_Sum rfl (fun _ _ => .ob _)) pda_nil))) (pd_and (pd_cmp (op_eqD hr.units) sr_eq (pd_prop (pd_name 2) T.c_Sum.cl T.pp_prime (ok_Sum_prime T) (hr.mono (by decide)) T.b_Sum_prime) (pd_name 0) (nomark _)) (pd_one (pd_cmp (op_eqD hr.units) sr_eq (pd_prop (pd_name 2) T.c_Sum.cl T.pp_size (ok_Sum_size T) (hr.mono (by decide)) T.b_Sum_size) (pd_name 1) (nomark _))))))), fun ds M Q hl h => ?_⟩)
  obtain ⟨p, fs, n, rfl, rfl, q⟩ := h
  refine ⟨_, rfl, _, _, _, _, _, true, rfl, dty_sum T p fs, .ob T.a_Sum, T.kt_Sum, true, rfl, ?_⟩
  refine ⟨_, rfl, _, rfl, _, _, rfl, .int p, rfl, rfl, rfl, true, by rw [eqD_int, decide_eq_true rfl], ?_⟩
  refine ⟨_, rfl, _, rfl, _, _, rfl, .int _, rfl, rfl, rfl, ?_⟩
  rw [eqD_int, decide_eq_true rfl]
  exact q
def W_init (C : Addr) : DC := fun ds M Q => ∃ j p d fs, ds = [.mu j, .int p, d] ∧ M[j]? = some (.ins C []) ∧ SumOk p fs ∧ isSeq d (dI fs) ∧ Q .non (M.set j (.ins C [("_prime", .int p), ("_factors", .tup (dI fs))]))
theorem ok_Sum_init (T : Tx P w K mg) : FnOk P w K mg base CX0 4 T.a_Sum_init T.f_Sum_init ["self", "prime", "factors"] (spD 3 (W_init T.a_Sum) K) := by
  refine pd_fn T.F_Sum_init sc_Sum_init (fun cdv A outer s H E hr => ⟨_, (pdss_cons (pds_if (pdt_not (pdt_val (pd_call (ok_is_prime T) (hr.mono (by decide)) (by rfl) T.g_is_prime T.F_is_prime.kp T.b_is_prime (pda_cons (pd_name 1) pda_nil)))) (pdss_one pds_never) pdss_nil)
      (pdss_cons (pds_if (pdt_w (pdw_or (pdt_not (pdt_val (pd_call (ok_has_items T) (hr.mono (by decide)) (by rfl) T.g_has_items T.F_has_items.kp T.b_has_items (pda_cons (pd_name 2) (pda_cons pd_int (pda_cons (pd_ix (ix_id T.d_GS) sr_ixD (pd_glob (v := .ref T.a_GS) (d := .ob T.a_GS) (by rfl) T.g_GS rfl (fun _ _ => .ob _)) (pd_name 1)) pda_nil)))))) (pdw_or1 (pdt_not (pdt_val (pd_call (ok_all_between T) (hr.mono (by decide)) (by rfl) T.g_all_between T.F_all_between.kp T.b_all_between (pda_cons (pd_name 2) (pda_cons pd_int (pda_cons (pd_op op_sub sr_I0i (pd_name 1) pd_int) pda_nil))))))))) (pdss_one pds_never) pdss_nil)
      (pdss_cons (pds_fldM (pd_name 1) (pd_name 0))
      (pdss_one (pds_fldM (pd_callTy call_tuple_of sc_tuple (by rfl) T.n_tuple (by decide +kernel) (pda_cons (pd_name 2) pda_nil)) (pd_name 0)))))), fun ds M Q hl h => ?_⟩)
  obtain ⟨j, p, d, fs, rfl, hm, hx, hs, q⟩ := h
  obtain ⟨g, h1, h2, h3, h4⟩ := id hx
  have hj : j < M.length := (List.getElem?_eq_some_iff.mp hm).1
  refine ⟨.int p, rfl, rfl, p, rfl, true, by rw [h1]; rfl, ?_⟩
  refine ⟨d, rfl, .int p, rfl, p, g, rfl, rfl, h1, rfl, d, _, _, _, rfl, hs, true, by rw [List.length_map, decide_eq_true h2, decide_eq_true h3]; rfl, ?_⟩
  refine ⟨d, rfl, .int p, rfl, p, 1, rfl, rfl, rfl, d, fs, 0, p - 1, rfl, hs, small' hx, true, by rw [h4.all], ?_⟩
  refine ⟨.int p, rfl, .mu j, rfl, j, T.a_Sum, [], rfl, hm, T.c_Sum.cl, T.na_prime, by decide, ?_⟩
  refine ⟨d, rfl, d, dI fs, rfl, hs, .mu j, rfl, j, T.a_Sum, [("_prime", .int p)], rfl, by rw [List.getElem?_set_self hj]; rfl, T.c_Sum.cl, T.na_factors, (by show 1 < 1000; decide), ?_⟩
  show Q .non _
  rw [List.set_set]
  exact q
theorem make_sum {C : Addr} {p : Int} {fs : List Int} {d : D} {M : Ms} {P : D → Ms → Prop} (hok : SumOk p fs) (hd : isSeq d (dI fs)) (hM : okM M) (q : P (dSum C p fs) M) :
    ([.int p, d] : List D).length + 1 = 3 ∧ W_init C (.mu M.length :: [.int p, d]) (M ++ [.ins C []]) fun d M2 => ∃ M3 fs, d = .non ∧ M2 = M3 ++ [.ins C fs] ∧ M3.length = M.length ∧ apartF M.length fs = true ∧ apartM M.length M3 = true ∧ P (.ins C fs) M3 :=
  ⟨rfl, _, p, d, fs, rfl, get_last _ _, hok, hd, M, _, rfl, set_last _ _ _, rfl, by
    show (true && (apartA M.length (dI fs) && true)) = true
    rw [apartA_ints]; rfl, hM, q⟩
end
end K01

set_option Elab.async false
set_option linter.all false
set_option maxRecDepth 100000
set_option maxHeartbeats 4000000
namespace K01
open PySem PySem.Spec PyProof.Rows L2 Pd
/-! ### arithmetic of factors -/
def unitL (n : Nat) (i : Int) : List Int := (List.range n).map fun (k : Nat) => if (0 + (k : Int)) = i then 1 else 0
theorem unitL_len (n : Nat) (i : Int) : (unitL n i).length = n := by unfold unitL; rw [List.length_map, List.length_range]
theorem unitL_ok {p g : Int} {n : Nat} {i : Int} (hg : gsz p = some g) (h1 : 1 ≤ (n : Int)) (h2 : (n : Int) ≤ g) : SumOk p (unitL n i) := by
  refine ⟨g, hg, by rw [unitL_len]; exact h1, by rw [unitL_len]; exact h2, fun x hx => ?_⟩
  have := gsz_pos hg
  unfold unitL at hx
  obtain ⟨k, _, rfl⟩ := List.mem_map.mp hx
  split <;> omega
def vsum (fs xs : List Int) : Int := (List.zipWith (fun a b => a * b) fs xs).sum
theorem pairs_mem : ∀ (fs xs : List Int) (d : D), d ∈ pairs (dI fs) (dI xs) → ∃ a b, a ∈ fs ∧ b ∈ xs ∧ d = .tup [.int a, .int b]
  | a :: fs, b :: xs, d, h => by
    rcases List.mem_cons.mp h with rfl | h
    · exact ⟨a, b, List.mem_cons_self, List.mem_cons_self, rfl⟩
    · obtain ⟨a', b', h1, h2, h3⟩ := pairs_mem fs xs d h
      exact ⟨a', b', List.mem_cons_of_mem _ h1, List.mem_cons_of_mem _ h2, h3⟩
  | [], xs, d, h => by cases xs <;> cases h
  | _ :: _, [], d, h => by cases h
def on2 (f : Int → Int → Int) : D → D := fun d => match d with | .tup [.int a, .int b] => .int (f a b) | d => d
theorem pairs_map (f : Int → Int → Int) : ∀ fs xs : List Int, (pairs (dI fs) (dI xs)).map (on2 f) = dI (List.zipWith f fs xs)
  | a :: fs, b :: xs => by
    show D.int (f a b) :: (pairs (dI fs) (dI xs)).map (on2 f) = _
    rw [pairs_map f fs xs]
    rfl
  | [], [] => rfl
  | [], _ :: _ => rfl
  | _ :: _, [] => rfl
theorem pairs_size (fs xs : List Int) : (pairs (dI fs) (dI xs)).length ≤ fs.length := by
  rw [Pd.pairs_len, List.length_map]
  exact Nat.min_le_left _ _
theorem zw_ok {p : Int} {fs gs : List Int} (f : Int → Int → Int) (h : SumOk p fs) (hl : gs.length = fs.length) : SumOk p (List.zipWith (fun a b => f a b % p) fs gs) := by
  obtain ⟨g, h1, h2, h3, h4⟩ := h
  have hp := gsz_pos h1
  have hlen : (List.zipWith (fun a b => f a b % p) fs gs).length = fs.length := by rw [List.length_zipWith, hl, Nat.min_self]
  refine ⟨g, h1, by rw [hlen]; exact h2, by rw [hlen]; exact h3, fun x hx => ?_⟩
  rw [List.mem_iff_getElem] at hx
  obtain ⟨i, hi, rfl⟩ := hx
  rw [List.getElem_zipWith]
  exact ⟨Int.emod_nonneg _ (by omega), Int.emod_lt_of_pos _ (by omega)⟩
theorem mp_ok {p : Int} {fs : List Int} (f : Int → Int) (h : SumOk p fs) : SumOk p (fs.map fun a => f a % p) := by
  obtain ⟨g, h1, h2, h3, h4⟩ := h
  have hp := gsz_pos h1
  refine ⟨g, h1, by rw [List.length_map]; exact h2, by rw [List.length_map]; exact h3, fun x hx => ?_⟩
  obtain ⟨a, _, rfl⟩ := List.mem_map.mp hx
  exact ⟨Int.emod_nonneg _ (by omega), Int.emod_lt_of_pos _ (by omega)⟩
theorem SumOk.pos {p : Int} {fs : List Int} (h : SumOk p fs) : 0 < p ∧ p ≤ 7 := by
  obtain ⟨g, h1, _⟩ := h
  have := gsz_pos h1
  omega
theorem SumOk.mem {p : Int} {fs : List Int} (h : SumOk p fs) {a : Int} (ha : a ∈ fs) : 0 ≤ a ∧ a < 7 := by
  have h1 := h.pos
  obtain ⟨g, _, _, _, h4⟩ := h
  have := h4 a ha
  omega
section
variable {P : Program} {w : World} {K : PySem.W.Frag} {mg : Str → Option Value} {base : Heap}
def W_unit (C : Addr) : DC := fun ds M Q => ∃ p g i, ∃ n : Nat, ds = [.int p, .int n, .int i] ∧ gsz p = some g ∧ 1 ≤ (n : Int) ∧ (n : Int) ≤ g ∧ 0 ≤ i ∧ i < (n : Int) ∧ okM M ∧ Q (dSum C p (unitL n i)) M
theorem ok_Sum_unit (T : Tx P w K mg) : FnOk P w K mg base CX0 6 T.a_Sum_unit T.f_Sum_unit ["prime", "size", "index"] (spD 3 (W_unit T.a_Sum) K) := by
  refine pd_fn T.F_Sum_unit sc_Sum_unit (fun cdv A outer s H E hr => ⟨_, (pdss_cons (pds_expr (pd_call (ok_expect_prime_and_size T) (hr.mono (by decide)) (by rfl) T.g_expect_prime_and_size T.F_expect_prime_and_size.kp T.b_expect_prime_and_size (pda_cons (pd_name 0) (pda_cons (pd_name 1) pda_nil))))
      (pdss_cons (pds_if (pdt_not (pdt_val (pd_call (ok_is_between T) (hr.mono (by decide)) (by rfl) T.g_is_between T.F_is_between.kp T.b_is_between (pda_cons (pd_name 2) (pda_cons pd_int (pda_cons (pd_op op_sub sr_I0i (pd_name 1) pd_int) pda_nil)))))) (pdss_one pds_never) pdss_nil)
      (pdss_one (pds_ret (pd_make T.m_Sum (ok_Sum_init T) (hr.mono (by decide)) (by rfl) T.g_Sum T.b_Sum_init (pda_cons (pd_name 0) (pda_cons (pd_lc [("place", 3)] rfl sc_Sum_unit.nd (pdi_range1 (by rfl) T.n_range (pda_cons (pd_name 1) pda_nil)) (blkOk_by (N := ["prime", "size", "index", "place"]) (sc := defScope s_Sum_unit) (by decide +kernel)) (fun _ _ _ _ _ => (pdg_name 3 sc_Sum_unit.nd)) (fun _ _ _ _ _ => pdts_nil) (fun _ _ _ _ _ => (pd_ifExp (pdt_cmp (op_eqD hr.units) sr_eq (pd_name 3) (pd_name 2) (nomark _)) pd_int pd_int))) pda_nil))))))), fun ds M Q hl h => ?_⟩)
  obtain ⟨p, g, i, n, rfl, hg, h1, h2, h3, h4, hM, q⟩ := h
  have hp := gsz_pos hg
  refine ⟨.int p, rfl, .int n, rfl, rfl, p, g, n, rfl, hg, h1, h2, ?_⟩
  refine ⟨.int i, rfl, .int n, rfl, n, 1, rfl, rfl, rfl, .int i, "int", 0, (n : Int) - 1, rfl, rfl, fun j e => ?_, fun e => by cases e⟩
  cases e
  refine ⟨true, by rw [decide_eq_true h3, decide_eq_true (show i ≤ (n : Int) - 1 by omega)]; rfl, ?_⟩
  refine ⟨.int p, rfl, .int n, rfl, n, rfl, by omega, by omega, ?_⟩
  refine lc_map (fun d => match d with | .int x => .int (if x = i then 1 else 0) | d => d) _ _ (fun d hd R hR => ?_) ?_ ?_
  · obtain ⟨k, _, rfl⟩ := List.mem_map.mp hd
    refine ⟨.int _, rfl, .int i, rfl, rfl, rfl, decide (0 + (k : Int) = i), by rw [eqD_int], ?_⟩
    have hR' : R (.int (if 0 + (k : Int) = i then 1 else 0)) M := hR
    by_cases e : 0 + (k : Int) = i
    · rw [if_pos e] at hR'
      rw [decide_eq_true e]
      exact hR'
    · rw [if_neg e] at hR'
      rw [decide_eq_false e]
      exact hR'
  · rw [rng_len]
    have : (n : Int).toNat = n := Int.toNat_natCast n
    rw [this, List.length_nil]
    have hs : sizeLine = 16777216 := by decide
    omega
  · refine make_sum (unitL_ok (i := i) hg h1 h2) (.inl ?_) hM q
    show D.lst _ = D.lst _
    congr 1
    rw [List.nil_append]
    unfold rng unitL
    rw [Int.toNat_natCast, List.map_map]
    show _ = List.map D.int (List.map _ _)
    rw [List.map_map]
    rfl
def W_call (C : Addr) : DC := fun ds M Q => ∃ p fs d xs, ds = [dSum C p fs, d] ∧ SumOk p fs ∧ SumOk p xs ∧ isSeq d (dI xs) ∧ xs.length = fs.length ∧ Q (.int (vsum fs xs % p)) M
theorem ok_Sum_call (T : Tx P w K mg) : FnOk P w K mg base CX0 5 T.a_Sum_call T.f_Sum_call ["self", "data"] (spD 2 (W_call T.a_Sum) K) := by
  refine pd_fn T.F_Sum_call sc_Sum_call (fun cdv A outer s H E hr => ⟨_, (pdss_cons (pds_if (pdt_not (pdt_val (pd_call (ok_is_data T) (hr.mono (by decide)) (by rfl) T.g_is_data T.F_is_data.kp T.b_is_data (pda_cons (pd_fldK (K := K) rfl (pd_name 0)) (pda_cons (pd_callB call_len_seq sc_len (by rfl) T.n_len (by decide +kernel) (pda_cons (pd_fldK (K := K) rfl (pd_name 0)) pda_nil)) (pda_cons (pd_name 1) pda_nil)))))) (pdss_one pds_never) pdss_nil)
      (pdss_one (pds_ret (pd_op op_mod sr_I (pd_callB (cr_sum rfl) sc_sum (by rfl) T.n_sum (by decide +kernel) (pda_cons (pd_lc [("factor", 2), ("value", 3)] rfl sc_Sum_call.nd (pdi_zip (by rfl) T.n_zip (pda_cons (pd_fldK (K := K) rfl (pd_name 0)) (pda_cons (pd_name 1) pda_nil))) (blkOk_by (N := ["self", "data", "factor", "value"]) (sc := defScope s_Sum_call) (by decide +kernel)) (fun _ _ _ _ _ => (pdg_tup (n := 2) rfl (pdgs_cons (pdg_name 2 sc_Sum_call.nd) (pdgs_cons (pdg_name 3 sc_Sum_call.nd) pdgs_nil)))) (fun _ _ _ _ _ => pdts_nil) (fun _ _ _ _ _ => (pd_op op_mul sr_I (pd_name 2) (pd_name 3)))) pda_nil)) (pd_fldK (K := K) rfl (pd_name 0)))))), fun ds M Q hl h => ?_⟩)
  obtain ⟨p, fs, d, xs, rfl, h1, h2, hs, hl', q⟩ := h
  refine ⟨_, rfl, _, _, _, rfl, T.c_Sum.cl, T.na_prime, rfl, _, rfl, _, _, _, rfl, T.c_Sum.cl, T.na_factors, rfl, _, .inr rfl, d, rfl, rfl, p, _, d, xs, rfl, h2, hs, by rw [List.length_map, hl'], true, rfl, ?_⟩
  refine ⟨_, rfl, _, _, _, rfl, T.c_Sum.cl, T.na_factors, rfl, d, rfl, _, d, dI fs, dI xs, rfl, .inr rfl, hs, ?_⟩
  refine lc_map (on2 fun a b => a * b) _ _ (fun e he R hR => ?_) (Nat.le_trans (by simpa using pairs_size fs xs) (small' h1)) ?_
  · obtain ⟨a, b, ha, hb, rfl⟩ := pairs_mem _ _ _ he
    have := h1.mem ha
    exact ⟨_, rfl, rfl, _, _, rfl, _, _, rfl, rfl, .int a, rfl, .int b, rfl, a, b, rfl, rfl, .inl ⟨by omega, by omega⟩, hR⟩
  · rw [List.nil_append, pairs_map]
    exact ⟨_, rfl, _, rfl, _, _, _, rfl, T.c_Sum.cl, T.na_prime, rfl, _, p, rfl, rfl, h1.pos.1, q⟩
def W_two (C : Addr) (f : Int → Int → Int) : DC := fun ds M Q => ∃ p fs gs, ds = [dSum C p fs, dSum C p gs] ∧ SumOk p fs ∧ SumOk p gs ∧ gs.length = fs.length ∧ okM M ∧ Q (dSum C p (List.zipWith (fun a b => f a b % p) fs gs)) M
theorem ok_Sum_add (T : Tx P w K mg) : FnOk P w K mg base CX0 6 T.a_Sum_add T.f_Sum_add ["self", "other"] (spD 2 (W_two T.a_Sum fun a b => a + b) K) := by
  refine pd_fn T.F_Sum_add sc_Sum_add (fun cdv A outer s H E hr => ⟨_, (pdss_cons (pds_if (pdt_not (pdt_val (pd_call (ok_is_sum T) (hr.mono (by decide)) (by rfl) T.g_is_sum T.F_is_sum.kp T.b_is_sum (pda_cons (pd_fldK (K := K) rfl (pd_name 0)) (pda_cons (pd_callB call_len_seq sc_len (by rfl) T.n_len (by decide +kernel) (pda_cons (pd_fldK (K := K) rfl (pd_name 0)) pda_nil)) (pda_cons (pd_name 1) pda_nil)))))) (pdss_one pds_never) pdss_nil)
      (pdss_cons (pds_set 2 sc_Sum_add.nd (pd_zipL rfl (by rfl) T.n_list (by rfl) T.n_zip (pda_cons (pd_fldK (K := K) rfl (pd_name 0)) (pda_cons (pd_prop (pd_name 1) T.c_Sum.cl T.pp_factors (ok_Sum_factors T) (hr.mono (by decide)) T.b_Sum_factors) pda_nil))))
      (pdss_one (pds_ret (pd_make T.m_Sum (ok_Sum_init T) (hr.mono (by decide)) (by rfl) T.g_Sum T.b_Sum_init (pda_cons (pd_fldK (K := K) rfl (pd_name 0)) (pda_cons (pd_lc [("one", 3), ("two", 4)] rfl sc_Sum_add.nd (pdi_list (pd_name 2)) (blkOk_by (N := ["self", "other", "pairs", "one", "two"]) (sc := defScope s_Sum_add) (by decide +kernel)) (fun _ _ _ _ _ => (pdg_tup (n := 2) rfl (pdgs_cons (pdg_name 3 sc_Sum_add.nd) (pdgs_cons (pdg_name 4 sc_Sum_add.nd) pdgs_nil)))) (fun _ _ _ _ _ => pdts_nil) (fun _ _ _ _ _ => (pd_op op_mod sr_I (pd_op op_add sr_I0i (pd_name 3) (pd_name 4)) (pd_fldK (K := K) rfl (pd_name 0))))) pda_nil))))))), fun ds M Q hl h => ?_⟩)
  obtain ⟨p, fs, gs, rfl, h1, h2, hl', hM, q⟩ := h
  refine ⟨_, rfl, _, _, _, rfl, T.c_Sum.cl, T.na_prime, rfl, _, rfl, _, _, _, rfl, T.c_Sum.cl, T.na_factors, rfl, _, .inr rfl, _, rfl, rfl, p, gs, _, rfl, by rw [List.length_map, hl'], true, rfl, ?_⟩
  refine ⟨_, rfl, _, _, _, rfl, T.c_Sum.cl, T.na_factors, rfl, _, rfl, _, rfl, p, gs, rfl, _, _, dI fs, dI gs, rfl, .inr rfl, .inr rfl, ?_⟩
  refine ⟨_, rfl, _, _, _, rfl, T.c_Sum.cl, T.na_prime, rfl, _, rfl, _, rfl, ?_⟩
  refine lc_map (on2 fun a b => (a + b) % p) _ _ (fun e he R hR => ?_) (Nat.le_trans (by simpa using pairs_size fs gs) (small' h1)) ?_
  · obtain ⟨a, b, ha, hb, rfl⟩ := pairs_mem _ _ _ he
    exact ⟨_, rfl, rfl, _, _, rfl, _, _, rfl, rfl, .int a, rfl, .int b, rfl, a, b, rfl, rfl, _, rfl, _, _, _, rfl, T.c_Sum.cl, T.na_prime, rfl, _, p, rfl, rfl, h1.pos.1, hR⟩
  · rw [List.nil_append, pairs_map]
    exact make_sum (zw_ok (fun a b => a + b) h1 hl') (.inl rfl) hM q
theorem ok_Sum_sub (T : Tx P w K mg) : FnOk P w K mg base CX0 6 T.a_Sum_sub T.f_Sum_sub ["self", "other"] (spD 2 (W_two T.a_Sum fun a b => a - b) K) := by
  refine pd_fn T.F_Sum_sub sc_Sum_sub (fun cdv A outer s H E hr => ⟨_, (pdss_cons (pds_if (pdt_not (pdt_val (pd_call (ok_is_sum T) (hr.mono (by decide)) (by rfl) T.g_is_sum T.F_is_sum.kp T.b_is_sum (pda_cons (pd_fldK (K := K) rfl (pd_name 0)) (pda_cons (pd_callB call_len_seq sc_len (by rfl) T.n_len (by decide +kernel) (pda_cons (pd_fldK (K := K) rfl (pd_name 0)) pda_nil)) (pda_cons (pd_name 1) pda_nil)))))) (pdss_one pds_never) pdss_nil)
      (pdss_cons (pds_set 2 sc_Sum_sub.nd (pd_zipL rfl (by rfl) T.n_list (by rfl) T.n_zip (pda_cons (pd_fldK (K := K) rfl (pd_name 0)) (pda_cons (pd_prop (pd_name 1) T.c_Sum.cl T.pp_factors (ok_Sum_factors T) (hr.mono (by decide)) T.b_Sum_factors) pda_nil))))
      (pdss_one (pds_ret (pd_make T.m_Sum (ok_Sum_init T) (hr.mono (by decide)) (by rfl) T.g_Sum T.b_Sum_init (pda_cons (pd_fldK (K := K) rfl (pd_name 0)) (pda_cons (pd_lc [("one", 3), ("two", 4)] rfl sc_Sum_sub.nd (pdi_list (pd_name 2)) (blkOk_by (N := ["self", "other", "pairs", "one", "two"]) (sc := defScope s_Sum_sub) (by decide +kernel)) (fun _ _ _ _ _ => (pdg_tup (n := 2) rfl (pdgs_cons (pdg_name 3 sc_Sum_sub.nd) (pdgs_cons (pdg_name 4 sc_Sum_sub.nd) pdgs_nil)))) (fun _ _ _ _ _ => pdts_nil) (fun _ _ _ _ _ => (pd_op op_mod sr_I (pd_op op_sub sr_I0i (pd_name 3) (pd_name 4)) (pd_fldK (K := K) rfl (pd_name 0))))) pda_nil))))))), fun ds M Q hl h => ?_⟩)
  obtain ⟨p, fs, gs, rfl, h1, h2, hl', hM, q⟩ := h
  refine ⟨_, rfl, _, _, _, rfl, T.c_Sum.cl, T.na_prime, rfl, _, rfl, _, _, _, rfl, T.c_Sum.cl, T.na_factors, rfl, _, .inr rfl, _, rfl, rfl, p, gs, _, rfl, by rw [List.length_map, hl'], true, rfl, ?_⟩
  refine ⟨_, rfl, _, _, _, rfl, T.c_Sum.cl, T.na_factors, rfl, _, rfl, _, rfl, p, gs, rfl, _, _, dI fs, dI gs, rfl, .inr rfl, .inr rfl, ?_⟩
  refine ⟨_, rfl, _, _, _, rfl, T.c_Sum.cl, T.na_prime, rfl, _, rfl, _, rfl, ?_⟩
  refine lc_map (on2 fun a b => (a - b) % p) _ _ (fun e he R hR => ?_) (Nat.le_trans (by simpa using pairs_size fs gs) (small' h1)) ?_
  · obtain ⟨a, b, ha, hb, rfl⟩ := pairs_mem _ _ _ he
    exact ⟨_, rfl, rfl, _, _, rfl, _, _, rfl, rfl, .int a, rfl, .int b, rfl, a, b, rfl, rfl, _, rfl, _, _, _, rfl, T.c_Sum.cl, T.na_prime, rfl, _, p, rfl, rfl, h1.pos.1, hR⟩
  · rw [List.nil_append, pairs_map]
    exact make_sum (zw_ok (fun a b => a - b) h1 hl') (.inl rfl) hM q
def W_mul (C : Addr) : DC := fun ds M Q => ∃ p fs k, ds = [dSum C p fs, .int k] ∧ SumOk p fs ∧ okM M ∧ Q (dSum C p (fs.map fun a => a * k % p)) M
def on1 (f : Int → Int) : D → D := fun d => match d with | .int a => .int (f a) | d => d
theorem on1_map (f : Int → Int) : ∀ fs : List Int, (dI fs).map (on1 f) = dI (fs.map f) := fun fs => by
  show List.map _ (List.map _ _) = List.map _ (List.map _ _)
  rw [List.map_map, List.map_map]
  rfl
theorem ok_Sum_mul (T : Tx P w K mg) : FnOk P w K mg base CX0 6 T.a_Sum_mul T.f_Sum_mul ["self", "other"] (spD 2 (W_mul T.a_Sum) K) := by
  refine pd_fn T.F_Sum_mul sc_Sum_mul (fun cdv A outer s H E hr => ⟨_, (pdss_cons (pds_if (pdt_not (pdt_val (pd_call (ok_is_integer T) (hr.mono (by decide)) (by rfl) T.g_is_integer T.F_is_integer.kp T.b_is_integer (pda_cons (pd_name 1) pda_nil)))) (pdss_one pds_never) pdss_nil)
      (pdss_one (pds_ret (pd_make T.m_Sum (ok_Sum_init T) (hr.mono (by decide)) (by rfl) T.g_Sum T.b_Sum_init (pda_cons (pd_fldK (K := K) rfl (pd_name 0)) (pda_cons (pd_lc [("factor", 2)] rfl sc_Sum_mul.nd (pdi_tup (pd_fldK (K := K) rfl (pd_name 0))) (blkOk_by (N := ["self", "other", "factor"]) (sc := defScope s_Sum_mul) (by decide +kernel)) (fun _ _ _ _ _ => (pdg_name 2 sc_Sum_mul.nd)) (fun _ _ _ _ _ => pdts_nil) (fun _ _ _ _ _ => (pd_op op_mod sr_I (pd_op op_mul sr_I (pd_name 2) (pd_name 1)) (pd_fldK (K := K) rfl (pd_name 0))))) pda_nil)))))), fun ds M Q hl h => ?_⟩)
  obtain ⟨p, fs, k, rfl, h1, hM, q⟩ := h
  refine ⟨.int k, rfl, rfl, .int k, "int", rfl, rfl, true, rfl, ?_⟩
  refine ⟨_, rfl, _, _, _, rfl, T.c_Sum.cl, T.na_prime, rfl, _, rfl, _, _, _, rfl, T.c_Sum.cl, T.na_factors, rfl, _, rfl, ?_⟩
  refine lc_map (on1 fun a => a * k % p) _ _ (fun e he R hR => ?_) (by simpa using small' h1) ?_
  · obtain ⟨a, ha, rfl⟩ := List.mem_map.mp he
    have := h1.mem ha
    exact ⟨.int a, rfl, .int k, rfl, a, k, rfl, rfl, .inl ⟨by omega, by omega⟩, _, rfl, _, _, _, rfl, T.c_Sum.cl, T.na_prime, rfl, _, p, rfl, rfl, h1.pos.1, hR⟩
  · rw [List.nil_append, on1_map]
    exact make_sum (mp_ok (fun a => a * k) h1) (.inl rfl) hM q
def W_neg (C : Addr) : DC := fun ds M Q => ∃ p fs, ds = [dSum C p fs] ∧ SumOk p fs ∧ okM M ∧ Q (dSum C p (fs.map fun a => -a % p)) M
theorem ok_Sum_neg (T : Tx P w K mg) : FnOk P w K mg base CX0 6 T.a_Sum_neg T.f_Sum_neg ["self"] (spD 1 (W_neg T.a_Sum) K) := by
  refine pd_fn T.F_Sum_neg sc_Sum_neg (fun cdv A outer s H E hr => ⟨_, (pdss_one (pds_ret (pd_make T.m_Sum (ok_Sum_init T) (hr.mono (by decide)) (by rfl) T.g_Sum T.b_Sum_init (pda_cons (pd_fldK (K := K) rfl (pd_name 0)) (pda_cons (pd_lc [("factor", 1)] rfl sc_Sum_neg.nd (pdi_tup (pd_fldK (K := K) rfl (pd_name 0))) (blkOk_by (N := ["self", "factor"]) (sc := defScope s_Sum_neg) (by decide +kernel)) (fun _ _ _ _ _ => (pdg_name 1 sc_Sum_neg.nd)) (fun _ _ _ _ _ => pdts_nil) (fun _ _ _ _ _ => (pd_op op_mod sr_I (pd_un un_neg su_U (pd_name 1)) (pd_fldK (K := K) rfl (pd_name 0))))) pda_nil))))), fun ds M Q hl h => ?_⟩)
  obtain ⟨p, fs, rfl, h1, hM, q⟩ := h
  refine ⟨_, rfl, _, _, _, rfl, T.c_Sum.cl, T.na_prime, rfl, _, rfl, _, _, _, rfl, T.c_Sum.cl, T.na_factors, rfl, _, rfl, ?_⟩
  refine lc_map (on1 fun a => -a % p) _ _ (fun e he R hR => ?_) (by simpa using small' h1) ?_
  · obtain ⟨a, ha, rfl⟩ := List.mem_map.mp he
    exact ⟨.int a, rfl, a, rfl, _, rfl, _, _, _, rfl, T.c_Sum.cl, T.na_prime, rfl, _, p, rfl, rfl, h1.pos.1, hR⟩
  · rw [List.nil_append, on1_map]
    exact make_sum (mp_ok (fun a => -a) h1) (.inl rfl) hM q
def W_eq (C : Addr) : DC := fun ds M Q => ∃ p fs y, ds = [dSum C p fs, y] ∧ ((∃ q gs, y = dSum C q gs ∧ Q (.bl (decide (p = q) && decide (fs = gs))) M) ∨ ∃ zs, y = .tup zs ∧ Q (.bl false) M)
theorem ok_Sum_eq (T : Tx P w K mg) : FnOk P w K mg base CX0 1 T.a_Sum_eq T.f_Sum_eq ["self", "other"] (spD 2 (W_eq T.a_Sum) K) := by
  refine pd_fn T.F_Sum_eq sc_Sum_eq (fun cdv A outer s H E hr => ⟨_, (pdss_one (pds_ret (pd_and (pd_callB call_isi sc_isi (by rfl) T.n_isinstance (by decide +kernel) (pda_cons (pd_name 1) (pda_cons (pd_glob (v := .ref T.a_Sum) (d := .ob T.a_Sum) (by rfl) T.g_Sum rfl (fun _ _ => .ob _)) pda_nil))) (pd_and (pd_cmp (op_eqD hr.units) sr_eq (pd_fldK (K := K) rfl (pd_name 0)) (pd_fldK (K := K) rfl (pd_name 1)) (nomark _)) (pd_one (pd_cmp (op_eqD hr.units) sr_eq (pd_fldK (K := K) rfl (pd_name 0)) (pd_fldK (K := K) rfl (pd_name 1)) (nomark _))))))), fun ds M Q hl h => ?_⟩)
  obtain ⟨p, fs, y, rfl, h⟩ := h
  rcases h with ⟨p', gs, rfl, q⟩ | ⟨zs, rfl, q⟩
  · refine ⟨_, rfl, _, _, _, _, _, true, rfl, dty_sum T p' gs, .ob T.a_Sum, T.kt_Sum, true, rfl, ?_⟩
    refine ⟨_, rfl, _, _, _, rfl, T.c_Sum.cl, T.na_prime, rfl, _, rfl, _, _, _, rfl, T.c_Sum.cl, T.na_prime, rfl, rfl, rfl, decide (p = p'), by rw [eqD_int], ?_⟩
    by_cases e : p = p'
    · rw [decide_eq_true e] at q ⊢
      refine ⟨_, rfl, _, _, _, rfl, T.c_Sum.cl, T.na_factors, rfl, _, rfl, _, _, _, rfl, T.c_Sum.cl, T.na_factors, rfl, okD_tup _, okD_tup _, ?_⟩
      rw [eqD_tup]
      exact q
    · rw [decide_eq_false e] at q ⊢
      exact q
  · exact ⟨_, rfl, _, _, _, _, _, false, rfl, .tup zs, .ob T.a_Sum, T.kt_tuple, false, rfl, q⟩
end
end K01

set_option Elab.async false
set_option linter.all false
set_option maxRecDepth 100000
set_option maxHeartbeats 4000000
namespace K01
open PySem PySem.Spec PyProof.Rows L2 Pd
theorem p29 : (0 : Int) < 2147483629 := by decide
theorem p47 : (0 : Int) < 2147483647 := by decide
theorem z2 : 2 ≤ sizeLine := by decide
theorem i02 : (0 : Nat) < 2 := by decide
theorem i12 : (1 : Nat) < 2 := by decide
/-- the law's source -/
def Src (M : Ms) : Prop := ∃ n s : Int, M = [.lst [.int n, .int s]] ∧ 0 ≤ s ∧ s < 2147483647
theorem Src.ok {M : Ms} (h : Src M) : okM M := by
  obtain ⟨n, s, rfl, _⟩ := h
  rfl
section
variable {P : Program} {w : World} {K : PySem.W.Frag} {mg : Str → Option Value} {base : Heap}
def W_source : DCN := fun ds M Q => ∃ (ns : List Int) (k : Int), ds = [.lst (dI ns), .int k] ∧ 0 ≤ k ∧ ∀ n s : Int, 0 ≤ s → s < 2147483647 → Q [.int n, .int s] M
theorem ok_law_source (T : Tx P w K mg) : FnOk P w K mg base CX0 1 T.a_law_source T.f_law_source ["_law_script", "_law_turn"] (spN 2 W_source K) := by
  refine pd_fnN T.F_law_source sc_law_source (fun cdv A outer s H E hr => ⟨_, (pdn_cons (pds_set 2 sc_law_source.nd pd_int)
      (pdn_cons (pds_if (pdt_cmp op_lt sr_I0b (pd_name 1) (pd_callB call_len_seq sc_len (by rfl) T.n_len (by decide +kernel) (pda_cons (pd_name 0) pda_nil)) (nomark _)) (pdss_one (pds_set 2 sc_law_source.nd (pd_ix ix_list sr_ixL (pd_name 0) (pd_name 1)))) pdss_nil)
      (pdn_cons (pds_set 3 sc_law_source.nd (pd_callB (call_max2 rfl) sc_max (by rfl) T.n_max (by decide +kernel) (pda_cons (pd_name 2) (pda_cons (pd_op op_sub sr_I0i (pd_un un_neg su_U pd_int) (pd_name 2)) pda_nil))))
      (pdn_cons (pds_set 4 sc_law_source.nd (pd_op op_mod sr_I (pd_callTy call_int1 sc_int (by rfl) T.n_int (by decide +kernel) (pda_cons (pd_op op_add sr_I0i (pd_op op_add sr_I0i (pd_op op_mul sr_I (pd_op op_mod sr_I (pd_callTy call_int1 sc_int (by rfl) T.n_int (by decide +kernel) (pda_cons (pd_name 3) pda_nil)) pd_int) pd_int) (pd_op op_mul sr_I pd_int (pd_name 1))) pd_int) pda_nil)) pd_int))
      (pdn_cons (pds_if (pdt_cmp op_lt sr_I0b (pd_name 3) (pd_op op_pow sr_I pd_int pd_int) (nomark _)) (pdss_one (pds_set 3 sc_law_source.nd pd_int)) pdss_nil)
      (pdn_ret (pda_cons (pd_name 3) (pda_cons (pd_name 4) pda_nil)))))))), fun ds M Q hl h => ?_⟩)
  obtain ⟨ns, k, rfl, hk, q⟩ := h
  have m1 : ∀ x : Int, 0 ≤ x % 2147483647 ∧ x % 2147483647 < 2147483647 := fun x => ⟨Int.emod_nonneg _ (by decide), Int.emod_lt_of_pos _ (by decide)⟩
  refine ⟨.int k, rfl, _, rfl, dI ns, .inl rfl, _, _, rfl, rfl, decide (k < ((dI ns).length : Int)), rfl, ?_⟩
  by_cases hc : k < ((dI ns).length : Int)
  · rw [decide_eq_true hc]
    have hlt : k.toNat < ns.length := by rw [List.length_map] at hc; omega
    have hv : (dI ns)[k.toNat]? = some (.int ns[k.toNat]) := by rw [List.getElem?_map, List.getElem?_eq_getElem hlt]; rfl
    refine ⟨_, rfl, _, rfl, dI ns, k, _, rfl, rfl, ⟨hk, hv⟩, ?_⟩
    refine ⟨_, rfl, 1, rfl, _, rfl, _, _, rfl, rfl, _, _, rfl, ?_⟩
    refine ⟨_, rfl, .inl ⟨_, rfl, _, _, rfl, rfl, p29, _, _, rfl, rfl, .inr ⟨by decide, by decide⟩, .int k, rfl, _, _, rfl, rfl, .inl ⟨by decide, by decide⟩, _, _, rfl, rfl, _, _, rfl, rfl, .inl ⟨_, rfl, _, _, rfl, rfl, p47, ?_⟩⟩⟩
    refine ⟨_, rfl, _, _, rfl, rfl, ⟨by decide, by decide, by decide⟩, _, _, rfl, rfl, _, rfl, ?_⟩
    refine bsplit (fun _ => ?_) (fun _ => ?_)
    · exact ⟨_, rfl, _, rfl, z2, q _ _ (m1 _).1 (m1 _).2⟩
    · exact ⟨_, rfl, _, rfl, z2, q _ _ (m1 _).1 (m1 _).2⟩
  · rw [decide_eq_false hc]
    refine ⟨_, rfl, 1, rfl, _, rfl, _, _, rfl, rfl, _, _, rfl, ?_⟩
    refine ⟨_, rfl, .inl ⟨_, rfl, _, _, rfl, rfl, p29, _, _, rfl, rfl, .inr ⟨by decide, by decide⟩, .int k, rfl, _, _, rfl, rfl, .inl ⟨by decide, by decide⟩, _, _, rfl, rfl, _, _, rfl, rfl, .inl ⟨_, rfl, _, _, rfl, rfl, p47, ?_⟩⟩⟩
    refine ⟨_, rfl, _, _, rfl, rfl, ⟨by decide, by decide, by decide⟩, _, _, rfl, rfl, _, rfl, ?_⟩
    refine bsplit (fun _ => ?_) (fun _ => ?_)
    · exact ⟨_, rfl, _, rfl, z2, q _ _ (m1 _).1 (m1 _).2⟩
    · exact ⟨_, rfl, _, rfl, z2, q _ _ (m1 _).1 (m1 _).2⟩
def W_draw : DC := fun ds M Q => ∃ a : Int, ds = [.mu 0, .int a] ∧ Src M ∧ 0 < a ∧ a < 1073741824 ∧ ∀ r M', Src M' → 0 ≤ r → r < a → Q (.int r) M'
theorem ok_law_draw (T : Tx P w K mg) : FnOk P w K mg base CX0 1 T.a_law_draw T.f_law_draw ["_law_source_here", "_law_amount"] (spD 2 W_draw K) := by
  refine pd_fn T.F_law_draw sc_law_draw (fun cdv A outer s H E hr => ⟨_, (pdss_cons (pds_if (pdt_cmp op_gt sr_I0b (pd_ix ix_list sr_ixM (pd_name 0) pd_int) pd_int (nomark _)) (pdss_cons (pds_set 2 sc_law_draw.nd (pd_op op_mod sr_I (pd_callTy call_int1 sc_int (by rfl) T.n_int (by decide +kernel) (pda_cons (pd_ix ix_list sr_ixM (pd_name 0) pd_int) pda_nil)) (pd_name 1)))
      (pdss_cons (pds_setItem (pd_op op_fdiv sr_I (pd_ix ix_list sr_ixM (pd_name 0) pd_int) (pd_name 1)) (pd_name 0) pd_int)
      (pdss_one (pds_ret (pd_name 2))))) pdss_nil)
      (pdss_cons (pds_setItem (pd_op op_mod sr_I (pd_callTy call_int1 sc_int (by rfl) T.n_int (by decide +kernel) (pda_cons (pd_op op_add sr_I0i (pd_op op_mul sr_I (pd_ix ix_list sr_ixM (pd_name 0) pd_int) pd_int) pd_int) pda_nil)) pd_int) (pd_name 0) pd_int)
      (pdss_one (pds_ret (pd_op op_mod sr_I (pd_callTy call_int1 sc_int (by rfl) T.n_int (by decide +kernel) (pda_cons (pd_op op_fdiv sr_I (pd_op op_mod sr_I (pd_callTy call_int1 sc_int (by rfl) T.n_int (by decide +kernel) (pda_cons (pd_op op_mul sr_I (pd_ix ix_list sr_ixM (pd_name 0) pd_int) (pd_ix ix_list sr_ixM (pd_name 0) pd_int)) pda_nil)) pd_int) pd_int) pda_nil)) (pd_name 1)))))), fun ds M Q hl h => ?_⟩)
  obtain ⟨a, rfl, ⟨n, sd, rfl, h1, h2⟩, ha, hb, q⟩ := h
  refine ⟨.mu 0, rfl, 0, _, 0, .int n, rfl, rfl, rfl, ⟨by decide, rfl⟩, n, 0, rfl, rfl, decide (0 < n), rfl, ?_⟩
  by_cases hc : 0 < n
  · rw [decide_eq_true hc]
    refine ⟨.mu 0, rfl, 0, _, 0, .int n, rfl, rfl, rfl, ⟨by decide, rfl⟩, .inl ⟨n, rfl, .int a, rfl, _, _, rfl, rfl, ha, ?_⟩⟩
    refine ⟨.mu 0, rfl, 0, _, 0, .int n, rfl, rfl, rfl, ⟨by decide, rfl⟩, .int a, rfl, _, _, rfl, rfl, ⟨ha, hb⟩, .mu 0, rfl, 0, _, 0, rfl, rfl, rfl, ⟨by decide, i02⟩, ?_⟩
    exact ⟨_, rfl, q _ _ ⟨_, _, rfl, h1, h2⟩ (Int.emod_nonneg _ (by omega)) (Int.emod_lt_of_pos _ ha)⟩
  · rw [decide_eq_false hc]
    have m1 : ∀ x : Int, 0 ≤ x % 2147483647 ∧ x % 2147483647 < 2147483647 := fun x => ⟨Int.emod_nonneg _ (by decide), Int.emod_lt_of_pos _ (by decide)⟩
    refine ⟨.mu 0, rfl, 0, _, 1, .int sd, rfl, rfl, rfl, ⟨by decide, rfl⟩, _, _, rfl, rfl, .inr ⟨by decide, by decide⟩, _, _, rfl, rfl, .inl ⟨_, rfl, _, _, rfl, rfl, p47, .mu 0, rfl, 0, _, 1, rfl, rfl, rfl, ⟨by decide, i12⟩, ?_⟩⟩
    have m2 := m1 (sd * 48271 + 11)
    refine ⟨.mu 0, rfl, 0, _, 1, _, rfl, rfl, rfl, ⟨by decide, rfl⟩, .mu 0, rfl, 0, _, 1, _, rfl, rfl, rfl, ⟨by decide, rfl⟩, _, _, rfl, rfl, .inl ⟨by omega, by omega⟩, .inl ⟨_, rfl, _, _, rfl, rfl, p29, _, _, rfl, rfl, ⟨by decide, by decide⟩, .inl ⟨_, rfl, .int a, rfl, _, _, rfl, rfl, ha, ?_⟩⟩⟩
    exact q _ _ ⟨_, _, rfl, m2.1, m2.2⟩ (Int.emod_nonneg _ (by omega)) (Int.emod_lt_of_pos _ ha)
def W_pick : DC := fun ds M Q => ∃ es : List D, ds = [.mu 0, .lst es] ∧ Src M ∧ 0 < (es.length : Int) ∧ (es.length : Int) < 1073741824 ∧ ∀ d M', Src M' → d ∈ es → Q d M'
theorem ok_law_pick (T : Tx P w K mg) : FnOk P w K mg base CX0 2 T.a_law_pick T.f_law_pick ["_law_source_here", "_law_items"] (spD 2 W_pick K) := by
  refine pd_fn T.F_law_pick sc_law_pick (fun cdv A outer s H E hr => ⟨_, (pdss_one (pds_ret (pd_ix ix_list sr_ixL (pd_name 1) (pd_call (ok_law_draw T) (hr.mono (by decide)) (by rfl) T.g_law_draw T.F_law_draw.kp T.b_law_draw (pda_cons (pd_name 0) (pda_cons (pd_callB call_len_seq sc_len (by rfl) T.n_len (by decide +kernel) (pda_cons (pd_name 1) pda_nil)) pda_nil)))))), fun ds M Q hl h => ?_⟩)
  obtain ⟨es, rfl, hs, h1, h2, q⟩ := h
  refine ⟨_, rfl, .mu 0, rfl, _, rfl, es, .inl rfl, rfl, _, rfl, hs, h1, h2, fun r M' hs' r0 r1 => ?_⟩
  have hlt : r.toNat < es.length := by omega
  exact ⟨es, r, _, rfl, rfl, ⟨r0, List.getElem?_eq_getElem hlt⟩, q _ _ hs' (List.getElem_mem hlt)⟩
def W_value : DC := fun ds M Q => ∃ d e p fs xs, ds = [d, e, .int p] ∧ SumOk p fs ∧ isSeq d (dI fs) ∧ isSeq e (dI xs) ∧ Q (.int (vsum fs xs % p)) M
theorem ok_law_value (T : Tx P w K mg) : FnOk P w K mg base CX0 1 T.a_law_value T.f_law_value ["_law_factors_here", "_law_data", "_law_prime"] (spD 3 W_value K) := by
  refine pd_fn T.F_law_value sc_law_value (fun cdv A outer s H E hr => ⟨_, (pdss_one (pds_ret (pd_op op_mod sr_I (pd_callTy call_int1 sc_int (by rfl) T.n_int (by decide +kernel) (pda_cons (pd_callB (cr_sum rfl) sc_sum (by rfl) T.n_sum (by decide +kernel) (pda_cons (pd_lc [("_law_one", 3), ("_law_two", 4)] rfl sc_law_value.nd (pdi_zip (by rfl) T.n_zip (pda_cons (pd_name 0) (pda_cons (pd_name 1) pda_nil))) (blkOk_by (N := ["_law_factors_here", "_law_data", "_law_prime", "_law_one", "_law_two"]) (sc := defScope s_law_value) (by decide +kernel)) (fun _ _ _ _ _ => (pdg_tup (n := 2) rfl (pdgs_cons (pdg_name 3 sc_law_value.nd) (pdgs_cons (pdg_name 4 sc_law_value.nd) pdgs_nil)))) (fun _ _ _ _ _ => pdts_nil) (fun _ _ _ _ _ => (pd_op op_mul sr_I (pd_name 3) (pd_name 4)))) pda_nil)) pda_nil)) (pd_name 2)))), fun ds M Q hl h => ?_⟩)
  obtain ⟨d, e, p, fs, xs, rfl, h1, hd, he, q⟩ := h
  refine ⟨d, rfl, e, rfl, d, e, dI fs, dI xs, rfl, hd, he, ?_⟩
  refine lc_map (on2 fun a b => a * b) _ _ (fun e he R hR => ?_) (Nat.le_trans (by simpa using pairs_size fs xs) (small' h1)) ?_
  · obtain ⟨a, b, ha, hb, rfl⟩ := pairs_mem _ _ _ he
    have := h1.mem ha
    exact ⟨_, rfl, rfl, _, _, rfl, _, _, rfl, rfl, .int a, rfl, .int b, rfl, a, b, rfl, rfl, .inl ⟨by omega, by omega⟩, hR⟩
  · rw [List.nil_append, pairs_map]
    exact ⟨_, rfl, .inl ⟨_, rfl, .int p, rfl, _, p, rfl, rfl, h1.pos.1, q⟩⟩
def W_lfactors : DC := fun ds M Q => ∃ (p : Int) (n : Nat), ds = [.mu 0, .int p, .int n] ∧ Src M ∧ 0 < p ∧ p < 1000 ∧ n < 1000 ∧ ∀ fs M', Src M' → fs.length = n → In p fs → Q (.tup (dI fs)) M'
theorem ok_law_factors (T : Tx P w K mg) : FnOk P w K mg base CX0 2 T.a_law_factors T.f_law_factors ["_law_source_here", "_law_prime", "_law_size"] (spD 3 W_lfactors K) := by
  refine pd_fn T.F_law_factors sc_law_factors (fun cdv A outer s H E hr => ⟨_, (pdss_one (pds_ret (pd_callTy call_tuple_of sc_tuple (by rfl) T.n_tuple (by decide +kernel) (pda_cons (pd_lc [("_law_place", 3)] rfl sc_law_factors.nd (pdi_range1 (by rfl) T.n_range (pda_cons (pd_name 2) pda_nil)) (blkOk_by (N := ["_law_source_here", "_law_prime", "_law_size", "_law_place"]) (sc := defScope s_law_factors) (by decide +kernel)) (fun _ _ _ _ _ => (pdg_name 3 sc_law_factors.nd)) (fun _ _ _ _ _ => pdts_nil) (fun _ _ _ _ _ => (pd_call (ok_law_draw T) (hr.mono (by decide)) (by rfl) T.g_law_draw T.F_law_draw.kp T.b_law_draw (pda_cons (pd_name 0) (pda_cons (pd_name 1) pda_nil))))) pda_nil)))), fun ds M Q hl h => ?_⟩)
  obtain ⟨p, n, rfl, hs, h1, h2, h3, q⟩ := h
  refine ⟨.int n, rfl, n, rfl, by omega, by omega, ?_⟩
  have hN : n ≤ sizeLine := Nat.le_trans (Nat.le_of_lt h3) (by decide)
  refine lc_ind (fun acc M' => Src M' ∧ ∃ fs, acc = dI fs ∧ In p fs) n hN (fun d acc M' R hI hlt hR => ?_) (fun acc M' hI hlen => ?_) _ _ _ ⟨hs, [], rfl, fun _ h => nomatch h⟩ (by rw [rng_len]; simp)
  · obtain ⟨hs', fs, rfl, hin⟩ := hI
    refine ⟨.mu 0, rfl, .int p, rfl, rfl, p, rfl, hs', h1, by omega, fun r M2 hs2 r0 r1 => hR _ _ ⟨hs2, fs ++ [r], by simp, fun x hx => ?_⟩⟩
    rcases List.mem_append.mp hx with hx | hx
    · exact hin x hx
    · rw [List.mem_singleton.mp hx]; exact ⟨r0, r1⟩
  · obtain ⟨hs', fs, rfl, hin⟩ := hI
    exact ⟨_, _, rfl, .inl rfl, q fs M' hs' (by simpa using hlen) hin⟩
/-- what the law draws from -/
def Form (p : Int) (n : Nat) : Prop := ∃ g, gsz p = some g ∧ 1 ≤ (n : Int) ∧ (n : Int) ≤ g ∧ p.toNat ^ n ≤ 4096
def W_form : DC := fun ds M Q => ds = [.mu 0] ∧ Src M ∧ ∀ p n M', Src M' → Form p n → Q (.tup [.int p, .int n]) M'
theorem ok_law_form (T : Tx P w K mg) : FnOk P w K mg base CX0 3 T.a_law_form T.f_law_form ["_law_source_here"] (spD 1 W_form K) := by
  refine pd_fn T.F_law_form sc_law_form (fun cdv A outer s H E hr => ⟨_, (pdss_one (pds_ret (pd_call (ok_law_pick T) (hr.mono (by decide)) (by rfl) T.g_law_pick T.F_law_pick.kp T.b_law_pick (pda_cons (pd_name 0) (pda_cons (pd_lst (pda_cons (pd_tup (pda_cons pd_int (pda_cons pd_int pda_nil))) (pda_cons (pd_tup (pda_cons pd_int (pda_cons pd_int pda_nil))) (pda_cons (pd_tup (pda_cons pd_int (pda_cons pd_int pda_nil))) (pda_cons (pd_tup (pda_cons pd_int (pda_cons pd_int pda_nil))) (pda_cons (pd_tup (pda_cons pd_int (pda_cons pd_int pda_nil))) (pda_cons (pd_tup (pda_cons pd_int (pda_cons pd_int pda_nil))) (pda_cons (pd_tup (pda_cons pd_int (pda_cons pd_int pda_nil))) (pda_cons (pd_tup (pda_cons pd_int (pda_cons pd_int pda_nil))) (pda_cons (pd_tup (pda_cons pd_int (pda_cons pd_int pda_nil))) pda_nil)))))))))) pda_nil))))), fun ds M Q hl h => ?_⟩)
  obtain ⟨rfl, hs, q⟩ := h
  refine ⟨.mu 0, rfl, by decide, by decide, by decide, by decide, by decide, by decide, by decide, by decide, by decide, by decide, rfl, _, rfl, hs, by decide, by decide, fun d M' hs' hd => ?_⟩
  have key : ∀ (p : Int) (n : Nat), (decide (p.toNat ^ n ≤ 4096) && (match gsz p with | some g => decide (1 ≤ (n : Int)) && decide ((n : Int) ≤ g) | none => false)) = true → Q (.tup [.int p, .int n]) M' := fun p n hd => by
    rw [Bool.and_eq_true] at hd
    obtain ⟨e1, e2⟩ := hd
    cases hg : gsz p with
    | none => rw [hg] at e2; cases e2
    | some g =>
      rw [hg] at e2
      simp only [Bool.and_eq_true, decide_eq_true_eq] at e2
      exact q p n M' hs' ⟨g, hg, e2.1, e2.2, of_decide_eq_true e1⟩
  simp only [List.mem_cons, List.not_mem_nil, or_false] at hd
  rcases hd with rfl | rfl | rfl | rfl | rfl | rfl | rfl | rfl | rfl
  · exact key 2 1 (by decide)
  · exact key 2 2 (by decide)
  · exact key 2 3 (by decide)
  · exact key 2 4 (by decide)
  · exact key 3 1 (by decide)
  · exact key 3 2 (by decide)
  · exact key 3 3 (by decide)
  · exact key 5 2 (by decide)
  · exact key 7 2 (by decide)
end
end K01

set_option Elab.async false
set_option linter.all false
set_option maxRecDepth 100000
set_option maxHeartbeats 4000000
namespace K01
open PySem PySem.Spec PyProof.Rows L2 Pd
def DataL (p : Int) (n : Nat) (es : List D) : Prop := ∀ d ∈ es, ∃ xs, d = .tup (dI xs) ∧ xs.length = n ∧ In p xs
section
variable {P : Program} {w : World} {K : PySem.W.Frag} {mg : Str → Option Value} {base : Heap}
def W_all_data : DC := fun ds M Q => ∃ (p n : Nat), ds = [.int p, .int n] ∧ 2 ≤ p ∧ p ≤ 7 ∧ n ≤ 6 ∧ p ^ n ≤ 4096 ∧ ∀ es, es.length ≤ 4096 → DataL p n es → Q (.lst es) M
theorem ok_law_all_data (T : Tx P w K mg) : FnOk P w K mg base CX0 1 T.a_law_all_data T.f_law_all_data ["_law_prime", "_law_size"] (spD 2 W_all_data K) := by
  refine pd_fn T.F_law_all_data sc_law_all_data (fun cdv A outer s H E hr => ⟨_, (pdss_cons (pds_set 2 sc_law_all_data.nd (pd_lst (pda_cons (pd_tup pda_nil) pda_nil)))
      (pdss_cons (pds_for PassesOwn.never rfl (pdi_range1 (by rfl) T.n_range (pda_cons (pd_name 1) pda_nil)) (pdg_name 3 sc_law_all_data.nd) (pdss_cons (pds_set 4 sc_law_all_data.nd (pd_lst pda_nil))
      (pdss_cons (pds_for PassesOwn.never rfl (pdi_list (pd_name 2)) (pdg_name 5 sc_law_all_data.nd) (pdss_one (pds_set 4 sc_law_all_data.nd (pd_op op_catL sr_catL (pd_name 4) (pd_lc [("_law_value_here", 6)] rfl sc_law_all_data.nd (pdi_range1 (by rfl) T.n_range (pda_cons (pd_name 0) pda_nil)) (blkOk_by (N := ["_law_prime", "_law_size", "_law_found", "_law_place", "_law_longer", "_law_data", "_law_value_here"]) (sc := defScope s_law_all_data) (by decide +kernel)) (fun _ _ _ _ _ => (pdg_name 6 sc_law_all_data.nd)) (fun _ _ _ _ _ => pdts_nil) (fun _ _ _ _ _ => (pd_op op_catA sr_catT (pd_name 5) (pd_tup (pda_cons (pd_name 6) pda_nil)))))))))
      (pdss_one (pds_set 2 sc_law_all_data.nd (pd_name 4))))))
      (pdss_one (pds_ret (pd_name 2))))), fun ds M Q hl h => ?_⟩)
  obtain ⟨p, n, rfl, hp, hp7, hn, hpn, q⟩ := h
  have hs : sizeLine = 16777216 := by decide
  refine ⟨by decide, by decide, .int n, rfl, n, rfl, by omega, by omega, ?_⟩
  refine for_ind (fun i ρ M' => M' = M ∧ ∃ es x3 x4 x5 x6, ρ = [some (.int p), some (.int n), some (.lst es), x3, x4, x5, x6] ∧ es.length = p ^ i ∧ DataL p i es) _ ?_ ?_ ⟨rfl, [.tup []], none, none, none, none, rfl, rfl, fun d hd => ⟨[], by rw [List.mem_singleton.mp hd]; rfl, rfl, fun _ h => nomatch h⟩⟩
  · rintro i d ρ M' N hd ⟨rfl, es, x3, x4, x5, x6, rfl, hlen, hdat⟩ hN
    have hi : i < n := by
      have := (List.getElem?_eq_some_iff.mp hd).1
      rw [rng_len, Int.toNat_natCast] at this
      exact this
    have hpi : p ^ (i + 1) ≤ 4096 := Nat.le_trans (Nat.pow_le_pow_right (by omega) hi) hpn
    have hpi' : p ^ i * p ≤ 4096 := by rw [← Nat.pow_succ]; exact hpi
    refine ⟨by decide, ?_⟩
    refine ⟨.lst es, rfl, es, rfl, for_ind (fun j ρ M2 => M2 = M' ∧ ∃ ls y5 y6, ρ = [some (.int p), some (.int n), some (.lst es), some d, some (.lst ls), y5, y6] ∧ ls.length = j * p ∧ DataL p (i + 1) ls) _ ?_ ?_ ⟨rfl, [], x5, x6, rfl, by rw [Nat.zero_mul]; rfl, fun _ h => nomatch h⟩⟩
    · rintro j e ρ M2 N2 he ⟨rfl, ls, y5, y6, rfl, hll, hld⟩ hN2
      have hj : j < p ^ i := by rw [← hlen]; exact (List.getElem?_eq_some_iff.mp he).1
      have hjp : (j + 1) * p ≤ p ^ i * p := Nat.mul_le_mul_right p hj
      have hjs : (j + 1) * p = j * p + p := Nat.succ_mul j p
      obtain ⟨xs, rfl, hxl, hxi⟩ := hdat e (List.mem_of_getElem? he)
      refine ⟨.lst ls, rfl, .int p, rfl, p, rfl, by omega, by omega, ?_⟩
      refine lc_map (fun d => match d with | .int v => .tup (dI xs ++ [.int v]) | d => d) _ _ (fun d2 hd2 R hR => ?_) ?_ ?_
      · obtain ⟨v, _, rfl⟩ := List.mem_map.mp hd2
        refine ⟨.tup (dI xs), rfl, .int _, rfl, (by show 1 ≤ sizeLine; decide), dI xs, _, rfl, rfl, ?_, hR⟩
        rw [List.length_map, hxl]
        show i + 1 ≤ sizeLine
        omega
      · rw [rng_len, Int.toNat_natCast, List.length_nil]
        omega
      · refine ⟨ls, _, rfl, rfl, ?_, hN2 _ _ ⟨rfl, _, _, _, rfl, ?_, ?_⟩⟩
        · rw [List.nil_append, List.length_map, rng_len, Int.toNat_natCast]
          omega
        · rw [List.nil_append, List.length_append, List.length_map, rng_len, Int.toNat_natCast, hll, hjs]
        · intro d3 hd3
          rcases List.mem_append.mp hd3 with h3 | h3
          · exact hld d3 h3
          · rw [List.nil_append] at h3
            obtain ⟨d4, hd4, rfl⟩ := List.mem_map.mp h3
            obtain ⟨v, hv, rfl⟩ := List.mem_map.mp hd4
            rw [Int.toNat_natCast, List.mem_range] at hv
            refine ⟨xs ++ [0 + (v : Int)], by simp, by rw [List.length_append, hxl]; rfl, fun x hx => ?_⟩
            rcases List.mem_append.mp hx with hx | hx
            · exact hxi x hx
            · rw [List.mem_singleton.mp hx]
              omega
    · rintro ρ M2 ⟨rfl, ls, y5, y6, rfl, hll, hld⟩
      exact ⟨.lst ls, rfl, hN _ _ ⟨rfl, ls, _, _, _, _, rfl, by rw [hll, hlen, Nat.pow_succ], hld⟩⟩
  · rintro ρ M' ⟨rfl, es, x3, x4, x5, x6, rfl, hlen, hdat⟩
    rw [rng_len, Int.toNat_natCast] at hlen hdat
    exact ⟨_, rfl, q es (by rw [hlen]; exact hpn) hdat⟩

theorem seq_or {d : D} {xs : List D} (h : isSeq d xs) : [d] = [.lst xs] ∨ [d] = [.tup xs] := by
  rcases h with rfl | rfl
  · exact .inl rfl
  · exact .inr rfl
theorem okD_l4 (a b : Int) (c : Bool) (fs : List Int) : okD (.lst [.int a, .tup (dI fs), .int b, .bl c]) = true := by
  have h1 : plain (.lst [.int a, .tup (dI fs), .int b, .bl c]) = true := by
    show (true && (plainA (dI fs) && (true && (true && true)))) = true
    rw [plain_ints]; rfl
  have h2 : SeqAt.shaped (toP (.lst [.int a, .tup (dI fs), .int b, .bl c])) = true := by
    show ((true && (PyData.canLayAll0 (toPA (dI fs)) && (true && (true && true)))) && decide (max 0 (max (PyData.depthAll (toPA (dI fs)) + 1) (max 0 (max 0 0))) + 1 ≤ 64)) = true
    rw [lay_ints, depth_ints]
    rfl
  unfold okD
  rw [h1, h2]
  rfl
theorem zeros : ∀ n : Nat, (List.replicate n [D.int 0]).flatten = dI (List.replicate n 0)
  | 0 => rfl
  | n + 1 => by
    rw [List.replicate_succ, List.flatten_cons, zeros n]
    rfl
theorem zero_iff : ∀ fs : List Int, (!(fs.any fun n => n != 0)) = decide (fs = List.replicate fs.length 0)
  | [] => rfl
  | x :: xs => by
    have ih := zero_iff xs
    rw [List.any_cons, Bool.not_or, ih, List.length_cons, List.replicate_succ, Bool.eq_iff_iff]
    simp
def W_sum_right (C : Addr) : DC := fun ds M Q => ∃ p fs d, ds = [dSum C p fs, d, .int p] ∧ SumOk p fs ∧ isSeq d (dI fs) ∧ p.toNat ^ fs.length ≤ 4096 ∧ Q (.bl true) M
theorem ok_law_sum_right (T : Tx P w K mg) : FnOk P w K mg base CX0 7 T.a_law_sum_right T.f_law_sum_right ["_law_one", "_law_factors_here", "_law_prime"] (spD 3 (W_sum_right T.a_Sum) K) := by
  refine pd_fn T.F_law_sum_right sc_law_sum_right (fun cdv A outer s H E hr => ⟨_, (pdss_cons (pds_set 3 sc_law_sum_right.nd (pd_lst (pda_cons (pd_prop (pd_name 0) T.c_Sum.cl T.pp_prime (ok_Sum_prime T) (hr.mono (by decide)) T.b_Sum_prime) (pda_cons (pd_prop (pd_name 0) T.c_Sum.cl T.pp_factors (ok_Sum_factors T) (hr.mono (by decide)) T.b_Sum_factors) (pda_cons (pd_prop (pd_name 0) T.c_Sum.cl T.pp_size (ok_Sum_size T) (hr.mono (by decide)) T.b_Sum_size) (pda_cons (pd_prop (pd_name 0) T.c_Sum.cl T.pp_is_zero (ok_Sum_is_zero T) (hr.mono (by decide)) T.b_Sum_is_zero) pda_nil))))))
      (pdss_cons (pds_if (pdt_cmp (op_neD hr.units) sr_ne (pd_name 3) (pd_lst (pda_cons (pd_name 2) (pda_cons (pd_callTy call_tuple_of sc_tuple (by rfl) T.n_tuple (by decide +kernel) (pda_cons (pd_name 1) pda_nil)) (pda_cons (pd_callB call_len_seq sc_len (by rfl) T.n_len (by decide +kernel) (pda_cons (pd_name 1) pda_nil)) (pda_cons (pd_cmp (op_eqD hr.units) sr_eq (pd_callTy call_tuple_of sc_tuple (by rfl) T.n_tuple (by decide +kernel) (pda_cons (pd_name 1) pda_nil)) (pd_op op_repA sr_repT (pd_tup (pda_cons pd_int pda_nil)) (pd_callB call_len_seq sc_len (by rfl) T.n_len (by decide +kernel) (pda_cons (pd_name 1) pda_nil))) (nomark _)) pda_nil))))) (nomark _)) (pdss_one (pds_ret pd_bl)) pdss_nil)
      (pdss_one (pds_ret (pd_callB (cr_all rfl) sc_all (by rfl) T.n_all (by decide +kernel) (pda_cons (pd_lc [("_law_data", 4)] rfl sc_law_sum_right.nd (pdi_list (pd_call (ok_law_all_data T) (hr.mono (by decide)) (by rfl) T.g_law_all_data T.F_law_all_data.kp T.b_law_all_data (pda_cons (pd_name 2) (pda_cons (pd_callB call_len_seq sc_len (by rfl) T.n_len (by decide +kernel) (pda_cons (pd_name 1) pda_nil)) pda_nil)))) (blkOk_by (N := ["_law_one", "_law_factors_here", "_law_prime", "_law_shown", "_law_data"]) (sc := defScope s_law_sum_right) (by decide +kernel)) (fun _ _ _ _ _ => (pdg_name 4 sc_law_sum_right.nd)) (fun _ _ _ _ _ => pdts_nil) (fun _ _ _ _ _ => (pd_cmp (op_eqD hr.units) sr_eq (pd_callO (pd_name 0) T.call_Sum (ok_Sum_call T) T.b_Sum_call (hr.mono (by decide)) (pda_cons (pd_name 4) pda_nil)) (pd_call (ok_law_value T) (hr.mono (by decide)) (by rfl) T.g_law_value T.F_law_value.kp T.b_law_value (pda_cons (pd_name 1) (pda_cons (pd_name 4) (pda_cons (pd_name 2) pda_nil)))) (nomark _)))) pda_nil)))))), fun ds M Q hl h => ?_⟩)
  obtain ⟨p, fs, d, rfl, h1, hd, hpow, q⟩ := h
  have hsm := small h1
  obtain ⟨g, g1, g2, g3, g4⟩ := id h1
  have hp := gsz_pos g1
  refine ⟨_, rfl, _, rfl, p, fs, rfl, _, rfl, _, rfl, p, fs, rfl, _, rfl, _, rfl, p, fs, rfl, _, rfl, _, rfl, p, fs, rfl, (by show 4 ≤ sizeLine; decide), ?_⟩
  refine ⟨_, rfl, .int p, rfl, d, rfl, d, dI fs, rfl, hd, d, rfl, dI fs, seq_or hd, d, rfl, d, dI fs, rfl, hd, (by show 1 ≤ sizeLine; decide), d, rfl, dI fs, seq_or hd, [.int 0], _, rfl, rfl, (by simp), (by rw [List.length_map]; exact g2), (by rw [List.length_map]; omega), (by show 1 ≤ 1000; decide), ?_⟩
  have hz : (List.replicate (((dI fs).length : Nat) : Int).toNat [D.int 0]).flatten = dI (List.replicate fs.length 0) := by
    rw [Int.toNat_natCast, List.length_map]
    exact zeros _
  refine ⟨okD_tup _, by rw [hz]; exact okD_tup _, (by show 4 ≤ sizeLine; decide), okD_l4 _ _ _ _, okD_l4 _ _ _ _, false, ?_, ?_⟩
  · rw [hz, eqD_tup, ← zero_iff, List.length_map, eqD_refl (okD_l4 _ _ _ _)]
    rfl
  · refine ⟨.int p, rfl, d, rfl, dI fs, seq_or hd, rfl, p.toNat, fs.length, ?_, by omega, by omega, hsm, hpow, fun es hel hdat => ⟨es, rfl, ?_⟩⟩
    · rw [List.length_map, Int.toNat_of_nonneg (by omega)]
    · refine lc_map (fun _ => .bl true) _ _ (fun e he R hR => ?_) (by rw [List.length_nil]; have hs : sizeLine = 16777216 := (by decide); omega) ?_
      · obtain ⟨xs, rfl, hxl, hxi⟩ := hdat e he
        rw [Int.toNat_of_nonneg (by omega)] at hxi
        refine ⟨_, rfl, _, rfl, _, rfl, rfl, p, fs, _, xs, rfl, h1, ⟨g, g1, by rw [hxl]; exact g2, by rw [hxl]; exact g3, hxi⟩, .inr rfl, hxl, d, rfl, _, rfl, .int p, rfl, rfl, d, _, p, fs, xs, rfl, h1, hd, .inr rfl, rfl, rfl, ?_⟩
        rw [eqD_int, decide_eq_true rfl]
        exact hR
      · refine ⟨es.map fun _ => true, ?_, ?_⟩
        · rw [List.nil_append, List.map_map]
          rfl
        · rw [List.all_map]
          have : (es.all (id ∘ fun _ => true)) = true := List.all_eq_true.mpr fun _ _ => rfl
          rw [this]
          exact q
end
end K01

set_option Elab.async false
set_option linter.all false
set_option maxRecDepth 100000
set_option maxHeartbeats 4000000
namespace K01
open PySem PySem.Spec PyProof.Rows L2 Pd
theorem apSum (k : Nat) (p : Int) (fs : List Int) : apartF k [("_prime", .int p), ("_factors", .tup (dI fs))] = true := by
  show (true && (apartA k (dI fs) && true)) = true
  rw [apartA_ints]; rfl
section
variable {P : Program} {w : World} {K : PySem.W.Frag} {mg : Str → Option Value} {base : Heap}
def W_pair (C : Addr) : DC := fun ds M Q => ∃ p fs gs k, ds = [.int p, .tup (dI fs), .tup (dI gs), .int k] ∧ SumOk p fs ∧ SumOk p gs ∧ gs.length = fs.length ∧ p.toNat ^ fs.length ≤ 4096 ∧ okM M ∧ Q (.bl true) M
theorem ok_law_pair_right (T : Tx P w K mg) : FnOk P w K mg base CX0 8 T.a_law_pair_right T.f_law_pair_right ["_law_prime", "_law_one", "_law_other", "_law_number"] (spD 4 (W_pair T.a_Sum) K) := by
  refine pd_fn T.F_law_pair_right sc_law_pair_right (fun cdv A outer s H E hr => ⟨_, (pdss_cons (pds_par 7 8 rfl sc_law_pair_right.nd (pda_cons (pd_make T.m_Sum (ok_Sum_init T) (hr.mono (by decide)) (by rfl) T.g_Sum T.b_Sum_init (pda_cons (pd_name 0) (pda_cons (pd_name 1) pda_nil))) (pda_cons (pd_make T.m_Sum (ok_Sum_init T) (hr.mono (by decide)) (by rfl) T.g_Sum T.b_Sum_init (pda_cons (pd_name 0) (pda_cons (pd_callTy call_list_of sc_list (by rfl) T.n_list (by decide +kernel) (pda_cons (pd_name 2) pda_nil)) pda_nil))) pda_nil)) (by decide))
      (pdss_cons (pds_setLc 4 [("_law_low", 9), ("_law_high", 10)] rfl sc_law_pair_right.nd rfl rfl (sw_true rfl rfl rfl (by decide +kernel)) (pdi_zip (by rfl) T.n_zip (pda_cons (pd_name 1) (pda_cons (pd_name 2) pda_nil))) (blkOk_by (N := ["_law_prime", "_law_one", "_law_other", "_law_number", "_law_both", "_law_less", "_law_times", "_law_first", "_law_second", "_law_low", "_law_high"]) (sc := defScope s_law_pair_right) (by decide +kernel)) (fun _ _ _ _ _ => (pdg_tup (n := 2) rfl (pdgs_cons (pdg_name 9 sc_law_pair_right.nd) (pdgs_cons (pdg_name 10 sc_law_pair_right.nd) pdgs_nil)))) (fun _ _ _ _ _ => pdts_nil) (fun _ _ _ _ _ => (pd_op op_mod sr_I (pd_callTy call_int1 sc_int (by rfl) T.n_int (by decide +kernel) (pda_cons (pd_op op_add sr_I0i (pd_name 9) (pd_name 10)) pda_nil)) (pd_name 0))))
      (pdss_cons (pds_setLc 5 [("_law_low", 9), ("_law_high", 10)] rfl sc_law_pair_right.nd rfl rfl (sw_true rfl rfl rfl (by decide +kernel)) (pdi_zip (by rfl) T.n_zip (pda_cons (pd_name 1) (pda_cons (pd_name 2) pda_nil))) (blkOk_by (N := ["_law_prime", "_law_one", "_law_other", "_law_number", "_law_both", "_law_less", "_law_times", "_law_first", "_law_second", "_law_low", "_law_high"]) (sc := defScope s_law_pair_right) (by decide +kernel)) (fun _ _ _ _ _ => (pdg_tup (n := 2) rfl (pdgs_cons (pdg_name 9 sc_law_pair_right.nd) (pdgs_cons (pdg_name 10 sc_law_pair_right.nd) pdgs_nil)))) (fun _ _ _ _ _ => pdts_nil) (fun _ _ _ _ _ => (pd_op op_mod sr_I (pd_callTy call_int1 sc_int (by rfl) T.n_int (by decide +kernel) (pda_cons (pd_op op_sub sr_I0i (pd_name 9) (pd_name 10)) pda_nil)) (pd_name 0))))
      (pdss_cons (pds_setLc 6 [("_law_low", 9)] rfl sc_law_pair_right.nd rfl rfl (sw_true rfl rfl rfl (by decide +kernel)) (pdi_tup (pd_name 1)) (blkOk_by (N := ["_law_prime", "_law_one", "_law_other", "_law_number", "_law_both", "_law_less", "_law_times", "_law_first", "_law_second", "_law_low", "_law_high"]) (sc := defScope s_law_pair_right) (by decide +kernel)) (fun _ _ _ _ _ => (pdg_name 9 sc_law_pair_right.nd)) (fun _ _ _ _ _ => pdts_nil) (fun _ _ _ _ _ => (pd_op op_mod sr_I (pd_callTy call_int1 sc_int (by rfl) T.n_int (by decide +kernel) (pda_cons (pd_op op_mul sr_I (pd_name 9) (pd_name 3)) pda_nil)) (pd_name 0))))
      (pdss_cons (pds_if (pdt_w (pdw_or (pdt_not (pdt_val (pd_call (ok_law_sum_right T) (hr.mono (by decide)) (by rfl) T.g_law_sum_right T.F_law_sum_right.kp T.b_law_sum_right (pda_cons (pd_name 7) (pda_cons (pd_name 1) (pda_cons (pd_name 0) pda_nil)))))) (pdw_or1 (pdt_not (pdt_val (pd_call (ok_law_sum_right T) (hr.mono (by decide)) (by rfl) T.g_law_sum_right T.F_law_sum_right.kp T.b_law_sum_right (pda_cons (pd_op (op_ownI T.sf_Sum T.o_add T.i_add (ok_Sum_add T) T.b_Sum_add (hr.mono (by decide))) sr_ownI (pd_name 7) (pd_name 8)) (pda_cons (pd_name 4) (pda_cons (pd_name 0) pda_nil))))))))) (pdss_one (pds_ret pd_bl)) pdss_nil)
      (pdss_cons (pds_if (pdt_w (pdw_or (pdt_not (pdt_val (pd_call (ok_law_sum_right T) (hr.mono (by decide)) (by rfl) T.g_law_sum_right T.F_law_sum_right.kp T.b_law_sum_right (pda_cons (pd_op (op_ownI T.sf_Sum T.o_sub T.i_sub (ok_Sum_sub T) T.b_Sum_sub (hr.mono (by decide))) sr_ownI (pd_name 7) (pd_name 8)) (pda_cons (pd_name 5) (pda_cons (pd_name 0) pda_nil)))))) (pdw_or1 (pdt_not (pdt_val (pd_call (ok_law_sum_right T) (hr.mono (by decide)) (by rfl) T.g_law_sum_right T.F_law_sum_right.kp T.b_law_sum_right (pda_cons (pd_op (op_ownN T.sf_Sum T.o_mul T.i_mul T.o_rmul (Or.inl rfl) T.ii_mul.choose_spec T.ii_rmul.choose_spec T.ii_sub (ok_Sum_mul T) T.b_Sum_mul (hr.mono (by decide))) sr_ownN (pd_name 7) (pd_name 3)) (pda_cons (pd_name 6) (pda_cons (pd_name 0) pda_nil))))))))) (pdss_one (pds_ret pd_bl)) pdss_nil)
      (pdss_cons (pds_if (pdt_not (pdt_val (pd_call (ok_law_sum_right T) (hr.mono (by decide)) (by rfl) T.g_law_sum_right T.F_law_sum_right.kp T.b_law_sum_right (pda_cons (pd_un (un_own T.o_neg T.i_neg (ok_Sum_neg T) T.b_Sum_neg (hr.mono (by decide))) su_own (pd_name 7)) (pda_cons (pd_lc [("_law_low", 9)] rfl sc_law_pair_right.nd (pdi_tup (pd_name 1)) (blkOk_by (N := ["_law_prime", "_law_one", "_law_other", "_law_number", "_law_both", "_law_less", "_law_times", "_law_first", "_law_second", "_law_low", "_law_high"]) (sc := defScope s_law_pair_right) (by decide +kernel)) (fun _ _ _ _ _ => (pdg_name 9 sc_law_pair_right.nd)) (fun _ _ _ _ _ => pdts_nil) (fun _ _ _ _ _ => (pd_op op_mod sr_I (pd_callTy call_int1 sc_int (by rfl) T.n_int (by decide +kernel) (pda_cons (pd_op op_sub sr_I0i pd_int (pd_name 9)) pda_nil)) (pd_name 0)))) (pda_cons (pd_name 0) pda_nil)))))) (pdss_one (pds_ret pd_bl)) pdss_nil)
      (pdss_one (pds_ret (pd_and (pd_cmp (op_eqD hr.units) sr_eq (pd_cmp (op_ownE T.o_eq T.i_eq (ok_Sum_eq T) T.b_Sum_eq (hr.mono (by decide))) sr_ownE (pd_name 7) (pd_name 8) (nomark _)) (pd_cmp (op_eqD hr.units) sr_eq (pd_name 1) (pd_name 2) (nomark _)) (nomark _)) (pd_and (pd_cmp (op_ownE T.o_eq T.i_eq (ok_Sum_eq T) T.b_Sum_eq (hr.mono (by decide))) sr_ownE (pd_name 7) (pd_make T.m_Sum (ok_Sum_init T) (hr.mono (by decide)) (by rfl) T.g_Sum T.b_Sum_init (pda_cons (pd_name 0) (pda_cons (pd_name 1) pda_nil))) (nomark _)) (pd_one (pd_cmp op_isBl sr_isB (pd_cmp (op_ownE T.o_eq T.i_eq (ok_Sum_eq T) T.b_Sum_eq (hr.mono (by decide))) sr_ownE (pd_name 7) (pd_name 1) (nomark _)) pd_bl (nomark _)))))))))))))), fun ds M Q hl h => ?_⟩)
  obtain ⟨p, fs, gs, k, rfl, h1, h2, hlen, hpow, hM, q⟩ := h
  have hp := h1.pos
  have zl : ∀ f : Int → Int → Int, (List.zipWith f fs gs).length = fs.length := fun f => by rw [List.length_zipWith, hlen, Nat.min_self]
  have hps : (pairs (dI fs) (dI gs)).length ≤ sizeLine := Nat.le_trans (pairs_size fs gs) (small' h1)
  refine ⟨.int p, rfl, .tup _, rfl, ⟨rfl, _, _, _, _, rfl, get_last _ _, h1, .inr rfl, _, _, rfl, set_last _ _ _, rfl, apSum _ _ _, hM, ?_⟩⟩
  refine ⟨.int p, rfl, .tup (dI gs), rfl, .tup _, dI gs, rfl, .inr rfl, ⟨rfl, _, _, _, _, rfl, get_last _ _, h2, .inl rfl, _, _, rfl, set_last _ _ _, rfl, apSum _ _ _, hM, _, _, rfl, ?_⟩⟩
  -- both
  refine ⟨_, rfl, _, rfl, _, _, dI fs, dI gs, rfl, .inr rfl, .inr rfl, lc_map (on2 fun a b => (a + b) % p) _ _ (fun e he R hR => ?_) (by simpa using hps) ?_⟩
  · obtain ⟨a, b, ha, hb, rfl⟩ := pairs_mem _ _ _ he
    exact ⟨_, rfl, rfl, _, _, rfl, _, _, rfl, rfl, .int a, rfl, .int b, rfl, a, b, rfl, rfl, .inl ⟨_, rfl, .int p, rfl, _, p, rfl, rfl, hp.1, hR⟩⟩
  rw [List.nil_append, pairs_map]
  -- less
  refine ⟨_, rfl, _, rfl, _, _, dI fs, dI gs, rfl, .inr rfl, .inr rfl, lc_map (on2 fun a b => (a - b) % p) _ _ (fun e he R hR => ?_) (by simpa using hps) ?_⟩
  · obtain ⟨a, b, ha, hb, rfl⟩ := pairs_mem _ _ _ he
    exact ⟨_, rfl, rfl, _, _, rfl, _, _, rfl, rfl, .int a, rfl, .int b, rfl, a, b, rfl, rfl, .inl ⟨_, rfl, .int p, rfl, _, p, rfl, rfl, hp.1, hR⟩⟩
  rw [List.nil_append, pairs_map]
  -- times
  refine ⟨_, rfl, dI fs, rfl, lc_map (on1 fun a => a * k % p) _ _ (fun e he R hR => ?_) (by simpa using small' h1) ?_⟩
  · obtain ⟨a, ha, rfl⟩ := List.mem_map.mp he
    have := h1.mem ha
    exact ⟨.int a, rfl, .int k, rfl, _, _, rfl, rfl, .inl ⟨by omega, by omega⟩, .inl ⟨_, rfl, .int p, rfl, _, p, rfl, rfl, hp.1, hR⟩⟩
  rw [List.nil_append, on1_map]
  -- the first and the sum
  refine ⟨_, rfl, _, rfl, .int p, rfl, rfl, p, fs, _, rfl, h1, .inr rfl, hpow, true, rfl, ?_⟩
  refine ⟨_, rfl, _, rfl, _, _, rfl, rfl, p, fs, gs, rfl, h1, h2, hlen, hM, _, rfl, .int p, rfl, rfl, p, _, _, rfl, zw_ok (fun a b => a + b) h1 hlen, .inl rfl, by rw [zl]; exact hpow, true, rfl, ?_⟩
  -- the difference and the product
  refine ⟨_, rfl, _, rfl, _, _, rfl, rfl, p, fs, gs, rfl, h1, h2, hlen, hM, _, rfl, .int p, rfl, rfl, p, _, _, rfl, zw_ok (fun a b => a - b) h1 hlen, .inl rfl, by rw [zl]; exact hpow, true, rfl, ?_⟩
  refine ⟨_, rfl, .int k, rfl, _, k, rfl, rfl, p, fs, k, rfl, h1, hM, _, rfl, .int p, rfl, rfl, p, _, _, rfl, mp_ok (fun a => a * k) h1, .inl rfl, by rw [List.length_map]; exact hpow, true, rfl, ?_⟩
  -- the negative
  refine ⟨_, rfl, _, rfl, p, fs, rfl, h1, hM, _, rfl, dI fs, rfl, lc_map (on1 fun a => -a % p) _ _ (fun e he R hR => ?_) (by simpa using small' h1) ?_⟩
  · obtain ⟨a, ha, rfl⟩ := List.mem_map.mp he
    refine ⟨.int a, rfl, 0, a, rfl, rfl, .inl ⟨_, rfl, .int p, rfl, _, p, rfl, rfl, hp.1, ?_⟩⟩
    rw [Int.zero_sub]
    exact hR
  rw [List.nil_append, on1_map]
  refine ⟨.int p, rfl, rfl, p, _, _, rfl, mp_ok (fun a => -a) h1, .inl rfl, by rw [List.length_map]; exact hpow, true, rfl, ?_⟩
  -- the comparisons
  refine ⟨_, rfl, _, rfl, _, _, rfl, dty_sum T p gs, T.nf_Sum, p, fs, _, rfl, .inl ⟨p, gs, rfl, _, rfl, _, rfl, okD_tup _, okD_tup _, rfl, rfl, true, ?_, ?_⟩⟩
  · rw [eqD_tup, eqD_bl, decide_eq_true rfl, Bool.true_and, beq_self_eq_true]
  refine ⟨_, rfl, .int p, rfl, _, rfl, ⟨rfl, _, _, _, _, rfl, get_last _ _, h1, .inr rfl, _, _, rfl, set_last _ _ _, rfl, apSum _ _ _, hM, _, _, rfl, dty_sum T p fs, T.nf_Sum, p, fs, _, rfl, .inl ⟨p, fs, rfl, true, ?_, ?_⟩⟩⟩
  · rw [decide_eq_true rfl, decide_eq_true rfl]; rfl
  exact ⟨_, rfl, _, rfl, _, _, rfl, .tup _, T.nf_tuple, p, fs, _, rfl, .inr ⟨dI fs, rfl, false, false, rfl, rfl, q⟩⟩
end
end K01

set_option Elab.async false
set_option linter.all false
set_option maxRecDepth 100000
set_option maxHeartbeats 4000000
namespace K01
open PySem PySem.Spec PyProof.Rows L2 Pd
theorem clean_cons (k : Nat) (d : D) (ρ : Rho) (h : apart k d = true) : clean k (some d :: ρ) = some d :: clean k ρ := by
  show (if apart k d = true then some d else none) :: clean k ρ = _
  rw [if_pos h]
theorem ten (k : Nat) (a b c d e f g h i j : Option D) : ∃ a' b' c' d' e' f' g' h' i' j', clean k [a, b, c, d, e, f, g, h, i, j] = [a', b', c', d', e', f', g', h', i', j'] := ⟨_, _, _, _, _, _, _, _, _, _, rfl⟩
theorem s21 : SumOk 2 [1, 0] := ⟨6, rfl, by decide, by decide, by unfold In; decide⟩
theorem s31 : SumOk 3 [1, 0] := ⟨6, rfl, by decide, by decide, by unfold In; decide⟩
theorem s30 : SumOk 3 [1] := ⟨6, rfl, by decide, by decide, by unfold In; decide⟩
section
variable {P : Program} {w : World} {K : PySem.W.Frag} {mg : Str → Option Value} {base : Heap}
def W_law : DC := fun ds M Q => ∃ ns : List Int, ds = [.lst (dI ns)] ∧ M = [] ∧ Q (.bl true) []
theorem ok_law (T : Tx P w K mg) : FnOk P w K mg base CX0 9 T.a_law T.f_law ["_law_script"] (spD 1 W_law K) := by
  refine pd_fn T.F_law sc_law (fun cdv A outer s H E hr => ⟨_, (pdss_cons (pds_for PassesOwn.never rfl (pdi_range1 (by rfl) T.n_range (pda_cons (pd_callB (call_max2 rfl) sc_max (by rfl) T.n_max (by decide +kernel) (pda_cons pd_int (pda_cons (pd_callB (call_min2 rfl) sc_min (by rfl) T.n_min (by decide +kernel) (pda_cons (pd_callB call_len_seq sc_len (by rfl) T.n_len (by decide +kernel) (pda_cons (pd_name 0) pda_nil)) (pda_cons pd_int pda_nil))) pda_nil))) pda_nil)) (pdg_name 1 sc_law.nd) (pdss_newN (i := 2) sc_law.nd (ok_law_source T) (hr.mono (by decide)) (by rfl) T.g_law_source T.F_law_source.kp T.b_law_source (pda_cons (pd_name 0) (pda_cons (pd_name 1) pda_nil))
      (pdss_cons (pds_asg (pd_call (ok_law_form T) (hr.mono (by decide)) (by rfl) T.g_law_form T.F_law_form.kp T.b_law_form (pda_cons (pd_name 2) pda_nil)) (pdg_tup (n := 2) rfl (pdgs_cons (pdg_name 5 sc_law.nd) (pdgs_cons (pdg_name 6 sc_law.nd) pdgs_nil))))
      (pdss_cons (pds_par 7 8 rfl sc_law.nd (pda_cons (pd_call (ok_law_factors T) (hr.mono (by decide)) (by rfl) T.g_law_factors T.F_law_factors.kp T.b_law_factors (pda_cons (pd_name 2) (pda_cons (pd_name 5) (pda_cons (pd_name 6) pda_nil)))) (pda_cons (pd_call (ok_law_factors T) (hr.mono (by decide)) (by rfl) T.g_law_factors T.F_law_factors.kp T.b_law_factors (pda_cons (pd_name 2) (pda_cons (pd_name 5) (pda_cons (pd_name 6) pda_nil)))) pda_nil)) (by decide))
      (pdss_cons (pds_set 3 sc_law.nd (pd_ix ix_list sr_ixL (pd_lst (pda_cons pd_int (pda_cons pd_int (pda_cons (pd_un un_neg su_U pd_int) (pda_cons (pd_name 5) (pda_cons (pd_op op_add sr_I0i (pd_op op_pow sr_I pd_int pd_int) pd_int) (pda_cons (pd_un un_neg su_U pd_int) pda_nil))))))) (pd_call (ok_law_draw T) (hr.mono (by decide)) (by rfl) T.g_law_draw T.F_law_draw.kp T.b_law_draw (pda_cons (pd_name 2) (pda_cons pd_int pda_nil)))))
      (pdss_cons (pds_if (pdt_w (pdw_or (pdt_not (pdt_val (pd_call (ok_law_pair_right T) (hr.mono (by decide)) (by rfl) T.g_law_pair_right T.F_law_pair_right.kp T.b_law_pair_right (pda_cons (pd_name 5) (pda_cons (pd_name 7) (pda_cons (pd_name 8) (pda_cons (pd_name 3) pda_nil))))))) (pdw_or1 (pdt_not (pdt_val (pd_call (ok_law_pair_right T) (hr.mono (by decide)) (by rfl) T.g_law_pair_right T.F_law_pair_right.kp T.b_law_pair_right (pda_cons (pd_name 5) (pda_cons (pd_name 7) (pda_cons (pd_name 7) (pda_cons (pd_name 3) pda_nil)))))))))) (pdss_one (pds_ret pd_bl)) pdss_nil)
      (pdss_cons (pds_for PassesOwn.never rfl (pdi_range1 (by rfl) T.n_range (pda_cons (pd_name 6) pda_nil)) (pdg_name 4 sc_law.nd) (pdss_cons (pds_set 9 sc_law.nd (pd_smeth (pd_glob (v := .ref T.a_Sum) (d := .ob T.a_Sum) (by rfl) T.g_Sum rfl (fun _ _ => .ob _)) T.sm_unit (ok_Sum_unit T) T.b_Sum_unit (hr.mono (by decide)) (pda_cons (pd_name 5) (pda_cons (pd_name 6) (pda_cons (pd_name 4) pda_nil)))))
      (pdss_one (pds_if (pdt_cmp (op_ownNe T.o_eq T.i_eq T.o_ne T.c_Sum.hm (ok_Sum_eq T) T.b_Sum_eq (hr.mono (by decide))) sr_ownNe (pd_name 9) (pd_make T.m_Sum (ok_Sum_init T) (hr.mono (by decide)) (by rfl) T.g_Sum T.b_Sum_init (pda_cons (pd_name 5) (pda_cons (pd_lc [("_law_place", 10)] rfl sc_law.nd (pdi_range1 (by rfl) T.n_range (pda_cons (pd_name 6) pda_nil)) (blkOk_by (N := ["_law_script", "_law_turn", "_law_source_here", "_law_number", "_law_index", "_law_prime", "_law_size", "_law_one", "_law_other", "_law_unit", "_law_place"]) (sc := defScope s_law) (by decide +kernel)) (fun _ _ _ _ _ => (pdg_name 10 sc_law.nd)) (fun _ _ _ _ _ => pdts_nil) (fun _ _ _ _ _ => (pd_callTy call_int1 sc_int (by rfl) T.n_int (by decide +kernel) (pda_cons (pd_cmp (op_eqD hr.units) sr_eq (pd_name 10) (pd_name 4) (nomark _)) pda_nil)))) pda_nil))) (nomark _)) (pdss_one (pds_ret pd_bl)) pdss_nil))))
      (pdss_one (pds_if (pdt_w (pdw_or (pdt_cmp (op_ownE T.o_eq T.i_eq (ok_Sum_eq T) T.b_Sum_eq (hr.mono (by decide))) sr_ownE (pd_make T.m_Sum (ok_Sum_init T) (hr.mono (by decide)) (by rfl) T.g_Sum T.b_Sum_init (pda_cons pd_int (pda_cons (pd_tup (pda_cons pd_int (pda_cons pd_int pda_nil))) pda_nil))) (pd_make T.m_Sum (ok_Sum_init T) (hr.mono (by decide)) (by rfl) T.g_Sum T.b_Sum_init (pda_cons pd_int (pda_cons (pd_tup (pda_cons pd_int (pda_cons pd_int pda_nil))) pda_nil))) (nomark _)) (pdw_or1 (pdt_cmp (op_ownE T.o_eq T.i_eq (ok_Sum_eq T) T.b_Sum_eq (hr.mono (by decide))) sr_ownE (pd_make T.m_Sum (ok_Sum_init T) (hr.mono (by decide)) (by rfl) T.g_Sum T.b_Sum_init (pda_cons pd_int (pda_cons (pd_tup (pda_cons pd_int pda_nil)) pda_nil))) (pd_make T.m_Sum (ok_Sum_init T) (hr.mono (by decide)) (by rfl) T.g_Sum T.b_Sum_init (pda_cons pd_int (pda_cons (pd_tup (pda_cons pd_int (pda_cons pd_int pda_nil))) pda_nil))) (nomark _))))) (pdss_one (pds_ret pd_bl)) pdss_nil)))))))))
      (pdss_one (pds_ret pd_bl))), fun ds M Q hl h => ?_⟩)
  obtain ⟨ns, rfl, rfl, q⟩ := h
  have hsl : sizeLine = 16777216 := by decide
  have hr1 : ∀ n : Nat, -(2 ^ 62) ≤ (if (if (20 : Int) < (n : Int) then (20 : Int) else (n : Int)) > 1 then (if (20 : Int) < (n : Int) then (20 : Int) else (n : Int)) else 1) ∧ (if (if (20 : Int) < (n : Int) then (20 : Int) else (n : Int)) > 1 then (if (20 : Int) < (n : Int) then (20 : Int) else (n : Int)) else 1) < 2 ^ 62 := fun n => by
    constructor <;> (repeat' split) <;> omega
  refine ⟨_, rfl, dI ns, .inl rfl, _, _, rfl, _, _, rfl, _, rfl, (hr1 _).1, (hr1 _).2, ?_⟩
  refine for_ind (fun i ρ M => M = [] ∧ ∃ x1 x2 x3 x4 x5 x6 x7 x8 x9 x10, ρ = [some (.lst (dI ns)), x1, x2, x3, x4, x5, x6, x7, x8, x9, x10]) _ ?_ ?_ ⟨rfl, none, none, none, none, none, none, none, none, none, none, rfl⟩
  · rintro i d ρ M N hd ⟨rfl, x1, x2, x3, x4, x5, x6, x7, x8, x9, x10, rfl⟩ hN
    obtain ⟨kk, _, rfl⟩ := List.mem_map.mp (List.mem_of_getElem? hd)
    refine ⟨_, rfl, .int _, rfl, rfl, ns, _, rfl, by omega, fun n0 s0 h0 h1 => ⟨rfl, ?_⟩⟩
    have hs0 : Src ([] ++ [.lst [.int n0, .int s0]]) := ⟨n0, s0, rfl, h0, h1⟩
    -- form
    refine ⟨_, rfl, rfl, rfl, hs0, fun p n M1 hs1 hf => ⟨_, rfl, rfl, _, _, rfl, _, _, rfl, rfl, ?_⟩⟩
    obtain ⟨g, hg, f1, f2, hpow⟩ := hf
    have hp := gsz_pos hg
    -- one, other
    refine ⟨_, rfl, .int p, rfl, .int n, rfl, rfl, p, n, rfl, hs1, by omega, by omega, by omega, fun fs M2 hs2 hl2 hi2 => ?_⟩
    refine ⟨_, rfl, .int p, rfl, .int n, rfl, rfl, p, n, rfl, hs2, by omega, by omega, by omega, fun gs M3 hs3 hl3 hi3 => ⟨_, _, rfl, ?_⟩⟩
    have hfs : SumOk p fs := ⟨g, hg, by rw [hl2]; exact f1, by rw [hl2]; exact f2, hi2⟩
    have hgs : SumOk p gs := ⟨g, hg, by rw [hl3]; exact f1, by rw [hl3]; exact f2, hi3⟩
    -- number
    refine ⟨1, rfl, .int p, rfl, _, _, rfl, rfl, ⟨by decide, by decide, by decide⟩, _, _, rfl, rfl, 17, rfl, (by show 6 ≤ sizeLine; decide), ?_⟩
    refine ⟨_, rfl, rfl, 6, rfl, hs3, by decide, by decide, fun r M4 hs4 r0 r1 => ?_⟩
    obtain ⟨k, hk⟩ : ∃ k : Int, ([.int 0, .int 1, .int (-1), .int p, .int (10 ^ (20 : Int).toNat + 3), .int (-17)] : List D)[r.toNat]? = some (.int k) := by
      have h6 : r.toNat = 0 ∨ r.toNat = 1 ∨ r.toNat = 2 ∨ r.toNat = 3 ∨ r.toNat = 4 ∨ r.toNat = 5 := by omega
      rcases h6 with e | e | e | e | e | e <;> rw [e] <;> exact ⟨_, rfl⟩
    refine ⟨_, r, .int k, rfl, rfl, ⟨r0, hk⟩, ?_⟩
    have hM := hs4.ok
    -- the pairs
    refine ⟨.int p, rfl, .tup (dI fs), rfl, .tup (dI gs), rfl, .int k, rfl, rfl, p, fs, gs, k, rfl, hfs, hgs, by rw [hl2, hl3], by rw [hl2]; exact hpow, hM, true, rfl, ?_⟩
    refine ⟨.int p, rfl, .tup (dI fs), rfl, .tup (dI fs), rfl, .int k, rfl, rfl, p, fs, fs, k, rfl, hfs, hfs, rfl, by rw [hl2]; exact hpow, hM, true, rfl, ?_⟩
    -- the units
    refine ⟨.int n, rfl, n, rfl, by omega, by omega, ?_⟩
    refine for_ind (fun j ρ M' => M' = M4 ∧ ∃ y4 y9 y10, ρ = [some (.lst (dI ns)), some (.int (0 + (kk : Int))), some (.mu 0), some (.int k), y4, some (.int p), some (.int n), some (.tup (dI fs)), some (.tup (dI gs)), y9, y10]) _ ?_ ?_ ⟨rfl, x4, x9, x10, rfl⟩
    · rintro j d2 ρ2 M5 N2 hd2 ⟨rfl, y4, y9, y10, rfl⟩ hN2
      obtain ⟨ix, hix, rfl⟩ := List.mem_map.mp (List.mem_of_getElem? hd2)
      rw [Int.toNat_natCast, List.mem_range] at hix
      refine ⟨rfl, .int p, rfl, .int n, rfl, .int _, rfl, rfl, p, g, _, n, rfl, hg, f1, f2, by omega, by omega, hM, ?_⟩
      refine ⟨_, rfl, .int p, rfl, .int n, rfl, n, rfl, by omega, by omega, ?_⟩
      refine lc_map (fun d => match d with | .int x => .int (if x = 0 + (ix : Int) then 1 else 0) | d => d) _ _ (fun d3 hd3 R hR => ?_) ?_ ?_
      · obtain ⟨x, _, rfl⟩ := List.mem_map.mp hd3
        refine ⟨.int _, rfl, .int _, rfl, rfl, rfl, .inr ⟨_, rfl, ?_⟩⟩
        have hR' : R (.int (if 0 + (x : Int) = 0 + (ix : Int) then 1 else 0)) M5 := hR
        rw [eqD_int]
        by_cases e : 0 + (x : Int) = 0 + (ix : Int)
        · rw [if_pos e] at hR'
          rw [decide_eq_true e]
          exact hR'
        · rw [if_neg e] at hR'
          rw [decide_eq_false e]
          exact hR'
      · rw [rng_len, Int.toNat_natCast, List.length_nil]
        omega
      · have hu : (List.map (fun d => match d with | .int x => .int (if x = 0 + (ix : Int) then 1 else 0) | d => d) (rng 0 (n : Int).toNat) : List D) = dI (unitL n (0 + (ix : Int))) := by
          unfold rng unitL
          rw [Int.toNat_natCast, List.map_map]
          show _ = List.map D.int (List.map _ _)
          rw [List.map_map]
          rfl
        rw [List.nil_append, hu]
        refine ⟨rfl, _, _, _, _, rfl, get_last _ _, unitL_ok (i := 0 + (ix : Int)) hg f1 f2, .inl rfl, _, _, rfl, set_last _ _ _, rfl, apSum _ _ _, hM, ?_⟩
        refine ⟨_, _, rfl, dty_sum T p _, T.nf_Sum, p, _, _, rfl, .inl ⟨p, _, rfl, true, ?_, false, rfl, ?_⟩⟩
        · rw [decide_eq_true rfl, decide_eq_true rfl]; rfl
        · exact hN2 _ _ ⟨rfl, _, _, _, rfl⟩
    · rintro ρ2 M5 ⟨rfl, y4, y9, y10, rfl⟩
      obtain ⟨n9, s9, rfl, _⟩ := hs4
      refine ⟨(by show 2 ≤ sizeLine; decide), rfl, _, _, _, [1, 0], rfl, get_last _ _, s21, .inr rfl, _, _, rfl, set_last _ _ _, rfl, apSum _ _ _, hM, ?_⟩
      refine ⟨(by show 2 ≤ sizeLine; decide), rfl, _, _, _, [1, 0], rfl, get_last _ _, s31, .inr rfl, _, _, rfl, set_last _ _ _, rfl, apSum _ _ _, hM, ?_⟩
      refine ⟨_, _, rfl, dty_sum T 3 _, T.nf_Sum, 2, _, _, rfl, .inl ⟨3, _, rfl, false, rfl, ?_⟩⟩
      refine ⟨(by show 1 ≤ sizeLine; decide), rfl, _, _, _, [1], rfl, get_last _ _, s30, .inr rfl, _, _, rfl, set_last _ _ _, rfl, apSum _ _ _, hM, ?_⟩
      refine ⟨(by show 2 ≤ sizeLine; decide), rfl, _, _, _, [1, 0], rfl, get_last _ _, s31, .inr rfl, _, _, rfl, set_last _ _ _, rfl, apSum _ _ _, hM, ?_⟩
      refine ⟨_, _, rfl, dty_sum T 3 _, T.nf_Sum, 3, _, _, rfl, .inl ⟨3, _, rfl, false, rfl, ?_⟩⟩
      refine ⟨[], _, rfl, rfl, rfl, hN _ _ ⟨rfl, ?_⟩⟩
      obtain ⟨a, b, c, d, e, f, g', h', i', j', he⟩ := ten 0 (some (.int (0 + (kk : Int)))) (some (.mu 0)) (some (.int k)) y4 (some (.int p)) (some (.int n)) (some (.tup (dI fs))) (some (.tup (dI gs))) y9 y10
      exact ⟨a, b, c, d, e, f, g', h', i', j', by rw [← he]; exact clean_cons _ _ _ (apartA_ints 0 ns)⟩
  · rintro ρ M ⟨rfl, _⟩
    exact q
end
end K01

set_option Elab.async false
set_option linter.all false
set_option maxRecDepth 100000
set_option maxHeartbeats 4000000
namespace Pd
open PySem PySem.Spec PyProof.Rows L2
/-- the script's list is data -/
theorem sp_script {K : PySem.W.Frag} {W : DC} {H : Hp} {a : Addr} {ns : List Int} {E : XK} (hS : SqL K H a (ns.map V.int)) (h : W [.lst (dI ns)] [] fun d _ => d = .bl true) : spD 1 W K [.ref a] H (fun v _ => v = .bl true) E := by
  have ri : ∀ ns : List Int, RpA K [] H (ns.map V.int) (dI ns) := fun ns => by
    induction ns with
    | nil => exact .nil
    | cons n ns ih => exact .cons (.int n) ih
  refine ⟨rfl, [], [], H, [.lst (dI ns)], fun d _ => d = .bl true, .cons (.lst hS (ri ns)) .nil, ⟨Ex.refl _, rfl, List.nodup_nil, fun k a m e => by simp at e⟩, h, fun v d L' H' M' _ _ e r => ?_⟩
  subst e
  cases r
  rfl
end Pd
namespace K01
open PySem PySem.Spec PyProof.Rows L2 Pd
theorem gs_dict {K : PySem.W.Frag} {P : Program} {w : World} {d : Addr} {h1 h2 h3 h4 : Int} {t1 t2 t3 t4 u1 u2 u3 u4 : Tok} {n0 : Nat}
    (l : K.lookup d = some ⟨.type "dict", none, .dict #[⟨h1, .int 2 t1, .int 6 u1⟩, ⟨h2, .int 3 t2, .int 6 u2⟩, ⟨h3, .int 5 t3, .int 5 u3⟩, ⟨h4, .int 7 t4, .int 4 u4⟩] n0, #[]⟩)
    (e : h1 = hashInt 2 ∧ h2 = hashInt 3 ∧ h3 = hashInt 5 ∧ h4 = hashInt 7) (o : (d == sysModules) = false) : IntD K P w d gsz := by
  obtain ⟨rfl, rfl, rfl, rfl⟩ := e
  refine ⟨⟨_, _, l, fun x hx => ?_, fun k => ?_⟩, o⟩
  · simp only [List.mem_toArray, List.mem_cons, List.not_mem_nil, or_false] at hx
    rcases hx with rfl | rfl | rfl | rfl
    · exact ⟨2, rfl, rfl⟩
    · exact ⟨3, rfl, rfl⟩
    · exact ⟨5, rfl, rfl⟩
    · exact ⟨7, rfl, rfl⟩
  · unfold findBy gsz
    simp only [List.find?_toArray, List.find?_cons, List.find?_nil, Value.isInt]
    by_cases e2 : k = 2
    · subst e2; exact .inr ⟨6, u1, rfl, rfl⟩
    by_cases e3 : k = 3
    · subst e3; exact .inr ⟨6, u2, rfl, rfl⟩
    by_cases e5 : k = 5
    · subst e5; exact .inr ⟨5, u3, rfl, rfl⟩
    by_cases e7 : k = 7
    · subst e7; exact .inr ⟨4, u4, rfl, rfl⟩
    rw [if_neg e2, if_neg e3, if_neg e5, if_neg e7]
    have f : ∀ a : Int, k ≠ a → (a == k) = false := fun a h => by simpa using fun z => h z.symm
    rw [f 2 e2, f 3 e3, f 5 e5, f 7 e7]
    exact .inl ⟨rfl, rfl⟩
theorem all_mk {l : PySem.W.OpenLaw} {w : World} {K : PySem.W.Frag} {h : Heap} {mg : Str → Option Value} {fa : Addr} (X : K.In h) (G : h.Ns mainGlobals mg) (hfa : mg "law" = some (.ref fa))
    {a_Sum a_is_integer a_is_between a_has_items a_all_between a_is_prime a_is_size a_is_data a_expect_prime_and_size a_is_sum a_Sum_init a_Sum_unit q_unit a_Sum_prime q_prime a_Sum_factors q_factors a_Sum_size q_size a_Sum_is_zero q_is_zero a_Sum_call a_Sum_add a_Sum_sub a_Sum_mul a_Sum_neg a_Sum_eq a_law_source a_law_draw a_law_pick a_law_all_data a_law_value a_law_factors a_law_form a_law_sum_right a_law_pair_right a_law a_GS : Addr}
    {od_is_integer an_is_integer od_is_between an_is_between od_has_items an_has_items od_all_between an_all_between od_is_prime an_is_prime od_is_size an_is_size od_is_data an_is_data od_expect_prime_and_size an_expect_prime_and_size od_is_sum an_is_sum od_Sum_init an_Sum_init od_Sum_unit an_Sum_unit od_Sum_prime an_Sum_prime od_Sum_factors an_Sum_factors od_Sum_size an_Sum_size od_Sum_is_zero an_Sum_is_zero od_Sum_call an_Sum_call od_Sum_add an_Sum_add od_Sum_sub an_Sum_sub od_Sum_mul an_Sum_mul od_Sum_neg an_Sum_neg od_Sum_eq an_Sum_eq od_law_source an_law_source od_law_draw an_law_draw od_law_pick an_law_pick od_law_all_data an_law_all_data od_law_value an_law_value od_law_factors an_law_factors od_law_form an_law_form od_law_sum_right an_law_sum_right od_law_pair_right an_law_pair_right od_law an_law : Option Addr}
    {sl_is_integer sl_is_between sl_has_items sl_all_between sl_is_prime sl_is_size sl_is_data sl_expect_prime_and_size sl_is_sum sl_Sum_init sl_Sum_unit sl_Sum_prime sl_Sum_factors sl_Sum_size sl_Sum_is_zero sl_Sum_call sl_Sum_add sl_Sum_sub sl_Sum_mul sl_Sum_neg sl_Sum_eq sl_law_source sl_law_draw sl_law_pick sl_law_all_data sl_law_value sl_law_factors sl_law_form sl_law_sum_right sl_law_pair_right sl_law : Array (Option Value)}
    {oc_is_integer kV_is_integer dc_is_integer pm_is_integer cd_is_integer ct_is_integer oc_is_between kV_is_between dc_is_between pm_is_between cd_is_between ct_is_between oc_has_items kV_has_items dc_has_items pm_has_items cd_has_items ct_has_items oc_all_between kV_all_between dc_all_between pm_all_between cd_all_between ct_all_between oc_is_prime kV_is_prime dc_is_prime pm_is_prime cd_is_prime ct_is_prime oc_is_size kV_is_size dc_is_size pm_is_size cd_is_size ct_is_size oc_is_data kV_is_data dc_is_data pm_is_data cd_is_data ct_is_data oc_expect_prime_and_size kV_expect_prime_and_size dc_expect_prime_and_size pm_expect_prime_and_size cd_expect_prime_and_size ct_expect_prime_and_size oc_is_sum kV_is_sum dc_is_sum pm_is_sum cd_is_sum ct_is_sum oc_Sum_init kV_Sum_init dc_Sum_init pm_Sum_init cd_Sum_init ct_Sum_init oc_Sum_unit kV_Sum_unit dc_Sum_unit pm_Sum_unit cd_Sum_unit ct_Sum_unit oc_Sum_prime kV_Sum_prime dc_Sum_prime pm_Sum_prime cd_Sum_prime ct_Sum_prime oc_Sum_factors kV_Sum_factors dc_Sum_factors pm_Sum_factors cd_Sum_factors ct_Sum_factors oc_Sum_size kV_Sum_size dc_Sum_size pm_Sum_size cd_Sum_size ct_Sum_size oc_Sum_is_zero kV_Sum_is_zero dc_Sum_is_zero pm_Sum_is_zero cd_Sum_is_zero ct_Sum_is_zero oc_Sum_call kV_Sum_call dc_Sum_call pm_Sum_call cd_Sum_call ct_Sum_call oc_Sum_add kV_Sum_add dc_Sum_add pm_Sum_add cd_Sum_add ct_Sum_add oc_Sum_sub kV_Sum_sub dc_Sum_sub pm_Sum_sub cd_Sum_sub ct_Sum_sub oc_Sum_mul kV_Sum_mul dc_Sum_mul pm_Sum_mul cd_Sum_mul ct_Sum_mul oc_Sum_neg kV_Sum_neg dc_Sum_neg pm_Sum_neg cd_Sum_neg ct_Sum_neg oc_Sum_eq kV_Sum_eq dc_Sum_eq pm_Sum_eq cd_Sum_eq ct_Sum_eq oc_law_source kV_law_source dc_law_source pm_law_source cd_law_source ct_law_source oc_law_draw kV_law_draw dc_law_draw pm_law_draw cd_law_draw ct_law_draw oc_law_pick kV_law_pick dc_law_pick pm_law_pick cd_law_pick ct_law_pick oc_law_all_data kV_law_all_data dc_law_all_data pm_law_all_data cd_law_all_data ct_law_all_data oc_law_value kV_law_value dc_law_value pm_law_value cd_law_value ct_law_value oc_law_factors kV_law_factors dc_law_factors pm_law_factors cd_law_factors ct_law_factors oc_law_form kV_law_form dc_law_form pm_law_form cd_law_form ct_law_form oc_law_sum_right kV_law_sum_right dc_law_sum_right pm_law_sum_right cd_law_sum_right ct_law_sum_right oc_law_pair_right kV_law_pair_right dc_law_pair_right pm_law_pair_right cd_law_pair_right ct_law_pair_right oc_law kV_law dc_law pm_law cd_law ct_law : Value}
    {pr_unit pr_prime pr_factors pr_size pr_is_zero : List Value}
    {h1 h2 h3 h4 : Int} {t1 t2 t3 t4 u1 u2 u3 u4 : Tok} {n0 : Nat}
    (g_Sum : PySem.W.nsIn K mainGlobals "Sum" = some (some (.ref a_Sum)))
    (g_is_integer : PySem.W.nsIn K mainGlobals "is_integer" = some (some (.ref a_is_integer)))
    (i_is_integer : PySem.W.isFn K (.ref a_is_integer) = true)
    (l_is_integer : K.lookup a_is_integer = some ⟨oc_is_integer, od_is_integer, .func (PySem.W.fnOf "is_integer" "is_integer" (defArgs s_is_integer) (defBody s_is_integer) (defScope s_is_integer) .none kV_is_integer dc_is_integer pm_is_integer an_is_integer cd_is_integer ct_is_integer), sl_is_integer⟩)
    (c_is_integer : PySem.W.codeIn K cd_is_integer "is_integer" = true)
    (k_is_integer : PySem.W.keepIn K (.ref a_is_integer) = true)
    (g_is_between : PySem.W.nsIn K mainGlobals "is_between" = some (some (.ref a_is_between)))
    (i_is_between : PySem.W.isFn K (.ref a_is_between) = true)
    (l_is_between : K.lookup a_is_between = some ⟨oc_is_between, od_is_between, .func (PySem.W.fnOf "is_between" "is_between" (defArgs s_is_between) (defBody s_is_between) (defScope s_is_between) .none kV_is_between dc_is_between pm_is_between an_is_between cd_is_between ct_is_between), sl_is_between⟩)
    (c_is_between : PySem.W.codeIn K cd_is_between "is_between" = true)
    (k_is_between : PySem.W.keepIn K (.ref a_is_between) = true)
    (g_has_items : PySem.W.nsIn K mainGlobals "has_items" = some (some (.ref a_has_items)))
    (i_has_items : PySem.W.isFn K (.ref a_has_items) = true)
    (l_has_items : K.lookup a_has_items = some ⟨oc_has_items, od_has_items, .func (PySem.W.fnOf "has_items" "has_items" (defArgs s_has_items) (defBody s_has_items) (defScope s_has_items) .none kV_has_items dc_has_items pm_has_items an_has_items cd_has_items ct_has_items), sl_has_items⟩)
    (c_has_items : PySem.W.codeIn K cd_has_items "has_items" = true)
    (k_has_items : PySem.W.keepIn K (.ref a_has_items) = true)
    (g_all_between : PySem.W.nsIn K mainGlobals "all_between" = some (some (.ref a_all_between)))
    (i_all_between : PySem.W.isFn K (.ref a_all_between) = true)
    (l_all_between : K.lookup a_all_between = some ⟨oc_all_between, od_all_between, .func (PySem.W.fnOf "all_between" "all_between" (defArgs s_all_between) (defBody s_all_between) (defScope s_all_between) .none kV_all_between dc_all_between pm_all_between an_all_between cd_all_between ct_all_between), sl_all_between⟩)
    (c_all_between : PySem.W.codeIn K cd_all_between "all_between" = true)
    (k_all_between : PySem.W.keepIn K (.ref a_all_between) = true)
    (g_is_prime : PySem.W.nsIn K mainGlobals "is_prime" = some (some (.ref a_is_prime)))
    (i_is_prime : PySem.W.isFn K (.ref a_is_prime) = true)
    (l_is_prime : K.lookup a_is_prime = some ⟨oc_is_prime, od_is_prime, .func (PySem.W.fnOf "is_prime" "is_prime" (defArgs s_is_prime) (defBody s_is_prime) (defScope s_is_prime) .none kV_is_prime dc_is_prime pm_is_prime an_is_prime cd_is_prime ct_is_prime), sl_is_prime⟩)
    (c_is_prime : PySem.W.codeIn K cd_is_prime "is_prime" = true)
    (k_is_prime : PySem.W.keepIn K (.ref a_is_prime) = true)
    (g_is_size : PySem.W.nsIn K mainGlobals "is_size" = some (some (.ref a_is_size)))
    (i_is_size : PySem.W.isFn K (.ref a_is_size) = true)
    (l_is_size : K.lookup a_is_size = some ⟨oc_is_size, od_is_size, .func (PySem.W.fnOf "is_size" "is_size" (defArgs s_is_size) (defBody s_is_size) (defScope s_is_size) .none kV_is_size dc_is_size pm_is_size an_is_size cd_is_size ct_is_size), sl_is_size⟩)
    (c_is_size : PySem.W.codeIn K cd_is_size "is_size" = true)
    (k_is_size : PySem.W.keepIn K (.ref a_is_size) = true)
    (g_is_data : PySem.W.nsIn K mainGlobals "is_data" = some (some (.ref a_is_data)))
    (i_is_data : PySem.W.isFn K (.ref a_is_data) = true)
    (l_is_data : K.lookup a_is_data = some ⟨oc_is_data, od_is_data, .func (PySem.W.fnOf "is_data" "is_data" (defArgs s_is_data) (defBody s_is_data) (defScope s_is_data) .none kV_is_data dc_is_data pm_is_data an_is_data cd_is_data ct_is_data), sl_is_data⟩)
    (c_is_data : PySem.W.codeIn K cd_is_data "is_data" = true)
    (k_is_data : PySem.W.keepIn K (.ref a_is_data) = true)
    (g_expect_prime_and_size : PySem.W.nsIn K mainGlobals "expect_prime_and_size" = some (some (.ref a_expect_prime_and_size)))
    (i_expect_prime_and_size : PySem.W.isFn K (.ref a_expect_prime_and_size) = true)
    (l_expect_prime_and_size : K.lookup a_expect_prime_and_size = some ⟨oc_expect_prime_and_size, od_expect_prime_and_size, .func (PySem.W.fnOf "expect_prime_and_size" "expect_prime_and_size" (defArgs s_expect_prime_and_size) (defBody s_expect_prime_and_size) (defScope s_expect_prime_and_size) .none kV_expect_prime_and_size dc_expect_prime_and_size pm_expect_prime_and_size an_expect_prime_and_size cd_expect_prime_and_size ct_expect_prime_and_size), sl_expect_prime_and_size⟩)
    (c_expect_prime_and_size : PySem.W.codeIn K cd_expect_prime_and_size "expect_prime_and_size" = true)
    (k_expect_prime_and_size : PySem.W.keepIn K (.ref a_expect_prime_and_size) = true)
    (g_is_sum : PySem.W.nsIn K mainGlobals "is_sum" = some (some (.ref a_is_sum)))
    (i_is_sum : PySem.W.isFn K (.ref a_is_sum) = true)
    (l_is_sum : K.lookup a_is_sum = some ⟨oc_is_sum, od_is_sum, .func (PySem.W.fnOf "is_sum" "is_sum" (defArgs s_is_sum) (defBody s_is_sum) (defScope s_is_sum) .none kV_is_sum dc_is_sum pm_is_sum an_is_sum cd_is_sum ct_is_sum), sl_is_sum⟩)
    (c_is_sum : PySem.W.codeIn K cd_is_sum "is_sum" = true)
    (k_is_sum : PySem.W.keepIn K (.ref a_is_sum) = true)
    (f_Sum_init : PySem.W.findIn K (.ref a_Sum) "__init__" = some (some (.ref a_Sum_init)))
    (i_Sum_init : PySem.W.isFn K (.ref a_Sum_init) = true)
    (l_Sum_init : K.lookup a_Sum_init = some ⟨oc_Sum_init, od_Sum_init, .func (PySem.W.fnOf "__init__" "Sum.__init__" (defArgs s_Sum_init) (defBody s_Sum_init) (defScope s_Sum_init) .none kV_Sum_init dc_Sum_init pm_Sum_init an_Sum_init cd_Sum_init ct_Sum_init), sl_Sum_init⟩)
    (c_Sum_init : PySem.W.codeIn K cd_Sum_init "Sum.__init__" = true)
    (k_Sum_init : PySem.W.keepIn K (.ref a_Sum_init) = true)
    (sa_unit : PySem.W.findCls K (.ref a_Sum) (.type "type") "unit" = some (.get (.builtin "staticmethod.__get__") (.ref q_unit) .none (.ref a_Sum)))
    (sr_unit : PySem.W.readsIn K a_Sum (.type "type") = true)
    (sg_unit : PySem.W.specialIn K (.ref a_Sum) "__getattribute__" = some (some (.builtin "type.__getattribute__")))
    (sc_unit : PySem.W.recIn K q_unit "staticmethod" = some (.ref a_Sum_unit :: pr_unit))
    (i_Sum_unit : PySem.W.isFn K (.ref a_Sum_unit) = true)
    (l_Sum_unit : K.lookup a_Sum_unit = some ⟨oc_Sum_unit, od_Sum_unit, .func (PySem.W.fnOf "unit" "Sum.unit" (defArgs s_Sum_unit) (defBody s_Sum_unit) (defScope s_Sum_unit) .none kV_Sum_unit dc_Sum_unit pm_Sum_unit an_Sum_unit cd_Sum_unit ct_Sum_unit), sl_Sum_unit⟩)
    (c_Sum_unit : PySem.W.codeIn K cd_Sum_unit "Sum.unit" = true)
    (k_Sum_unit : PySem.W.keepIn K (.ref a_Sum_unit) = true)
    (pa_prime : PySem.W.findIn K (.ref a_Sum) "prime" = some (some (.ref q_prime)))
    (pg_prime : PySem.W.specialIn K (.ref q_prime) "__get__" = some (some (.builtin "property.__get__")))
    (pt_prime : PySem.W.takesIn K (.ref q_prime) = some true)
    (pc_prime : PySem.W.recIn K q_prime "property" = some (.ref a_Sum_prime :: pr_prime))
    (i_Sum_prime : PySem.W.isFn K (.ref a_Sum_prime) = true)
    (l_Sum_prime : K.lookup a_Sum_prime = some ⟨oc_Sum_prime, od_Sum_prime, .func (PySem.W.fnOf "prime" "Sum.prime" (defArgs s_Sum_prime) (defBody s_Sum_prime) (defScope s_Sum_prime) .none kV_Sum_prime dc_Sum_prime pm_Sum_prime an_Sum_prime cd_Sum_prime ct_Sum_prime), sl_Sum_prime⟩)
    (c_Sum_prime : PySem.W.codeIn K cd_Sum_prime "Sum.prime" = true)
    (k_Sum_prime : PySem.W.keepIn K (.ref a_Sum_prime) = true)
    (pa_factors : PySem.W.findIn K (.ref a_Sum) "factors" = some (some (.ref q_factors)))
    (pg_factors : PySem.W.specialIn K (.ref q_factors) "__get__" = some (some (.builtin "property.__get__")))
    (pt_factors : PySem.W.takesIn K (.ref q_factors) = some true)
    (pc_factors : PySem.W.recIn K q_factors "property" = some (.ref a_Sum_factors :: pr_factors))
    (i_Sum_factors : PySem.W.isFn K (.ref a_Sum_factors) = true)
    (l_Sum_factors : K.lookup a_Sum_factors = some ⟨oc_Sum_factors, od_Sum_factors, .func (PySem.W.fnOf "factors" "Sum.factors" (defArgs s_Sum_factors) (defBody s_Sum_factors) (defScope s_Sum_factors) .none kV_Sum_factors dc_Sum_factors pm_Sum_factors an_Sum_factors cd_Sum_factors ct_Sum_factors), sl_Sum_factors⟩)
    (c_Sum_factors : PySem.W.codeIn K cd_Sum_factors "Sum.factors" = true)
    (k_Sum_factors : PySem.W.keepIn K (.ref a_Sum_factors) = true)
    (pa_size : PySem.W.findIn K (.ref a_Sum) "size" = some (some (.ref q_size)))
    (pg_size : PySem.W.specialIn K (.ref q_size) "__get__" = some (some (.builtin "property.__get__")))
    (pt_size : PySem.W.takesIn K (.ref q_size) = some true)
    (pc_size : PySem.W.recIn K q_size "property" = some (.ref a_Sum_size :: pr_size))
    (i_Sum_size : PySem.W.isFn K (.ref a_Sum_size) = true)
    (l_Sum_size : K.lookup a_Sum_size = some ⟨oc_Sum_size, od_Sum_size, .func (PySem.W.fnOf "size" "Sum.size" (defArgs s_Sum_size) (defBody s_Sum_size) (defScope s_Sum_size) .none kV_Sum_size dc_Sum_size pm_Sum_size an_Sum_size cd_Sum_size ct_Sum_size), sl_Sum_size⟩)
    (c_Sum_size : PySem.W.codeIn K cd_Sum_size "Sum.size" = true)
    (k_Sum_size : PySem.W.keepIn K (.ref a_Sum_size) = true)
    (pa_is_zero : PySem.W.findIn K (.ref a_Sum) "is_zero" = some (some (.ref q_is_zero)))
    (pg_is_zero : PySem.W.specialIn K (.ref q_is_zero) "__get__" = some (some (.builtin "property.__get__")))
    (pt_is_zero : PySem.W.takesIn K (.ref q_is_zero) = some true)
    (pc_is_zero : PySem.W.recIn K q_is_zero "property" = some (.ref a_Sum_is_zero :: pr_is_zero))
    (i_Sum_is_zero : PySem.W.isFn K (.ref a_Sum_is_zero) = true)
    (l_Sum_is_zero : K.lookup a_Sum_is_zero = some ⟨oc_Sum_is_zero, od_Sum_is_zero, .func (PySem.W.fnOf "is_zero" "Sum.is_zero" (defArgs s_Sum_is_zero) (defBody s_Sum_is_zero) (defScope s_Sum_is_zero) .none kV_Sum_is_zero dc_Sum_is_zero pm_Sum_is_zero an_Sum_is_zero cd_Sum_is_zero ct_Sum_is_zero), sl_Sum_is_zero⟩)
    (c_Sum_is_zero : PySem.W.codeIn K cd_Sum_is_zero "Sum.is_zero" = true)
    (k_Sum_is_zero : PySem.W.keepIn K (.ref a_Sum_is_zero) = true)
    (f_Sum_call : PySem.W.findIn K (.ref a_Sum) "__call__" = some (some (.ref a_Sum_call)))
    (i_Sum_call : PySem.W.isFn K (.ref a_Sum_call) = true)
    (l_Sum_call : K.lookup a_Sum_call = some ⟨oc_Sum_call, od_Sum_call, .func (PySem.W.fnOf "__call__" "Sum.__call__" (defArgs s_Sum_call) (defBody s_Sum_call) (defScope s_Sum_call) .none kV_Sum_call dc_Sum_call pm_Sum_call an_Sum_call cd_Sum_call ct_Sum_call), sl_Sum_call⟩)
    (c_Sum_call : PySem.W.codeIn K cd_Sum_call "Sum.__call__" = true)
    (k_Sum_call : PySem.W.keepIn K (.ref a_Sum_call) = true)
    (f_Sum_add : PySem.W.findIn K (.ref a_Sum) "__add__" = some (some (.ref a_Sum_add)))
    (i_Sum_add : PySem.W.isFn K (.ref a_Sum_add) = true)
    (l_Sum_add : K.lookup a_Sum_add = some ⟨oc_Sum_add, od_Sum_add, .func (PySem.W.fnOf "__add__" "Sum.__add__" (defArgs s_Sum_add) (defBody s_Sum_add) (defScope s_Sum_add) .none kV_Sum_add dc_Sum_add pm_Sum_add an_Sum_add cd_Sum_add ct_Sum_add), sl_Sum_add⟩)
    (c_Sum_add : PySem.W.codeIn K cd_Sum_add "Sum.__add__" = true)
    (k_Sum_add : PySem.W.keepIn K (.ref a_Sum_add) = true)
    (f_Sum_sub : PySem.W.findIn K (.ref a_Sum) "__sub__" = some (some (.ref a_Sum_sub)))
    (i_Sum_sub : PySem.W.isFn K (.ref a_Sum_sub) = true)
    (l_Sum_sub : K.lookup a_Sum_sub = some ⟨oc_Sum_sub, od_Sum_sub, .func (PySem.W.fnOf "__sub__" "Sum.__sub__" (defArgs s_Sum_sub) (defBody s_Sum_sub) (defScope s_Sum_sub) .none kV_Sum_sub dc_Sum_sub pm_Sum_sub an_Sum_sub cd_Sum_sub ct_Sum_sub), sl_Sum_sub⟩)
    (c_Sum_sub : PySem.W.codeIn K cd_Sum_sub "Sum.__sub__" = true)
    (k_Sum_sub : PySem.W.keepIn K (.ref a_Sum_sub) = true)
    (f_Sum_mul : PySem.W.findIn K (.ref a_Sum) "__mul__" = some (some (.ref a_Sum_mul)))
    (i_Sum_mul : PySem.W.isFn K (.ref a_Sum_mul) = true)
    (l_Sum_mul : K.lookup a_Sum_mul = some ⟨oc_Sum_mul, od_Sum_mul, .func (PySem.W.fnOf "__mul__" "Sum.__mul__" (defArgs s_Sum_mul) (defBody s_Sum_mul) (defScope s_Sum_mul) .none kV_Sum_mul dc_Sum_mul pm_Sum_mul an_Sum_mul cd_Sum_mul ct_Sum_mul), sl_Sum_mul⟩)
    (c_Sum_mul : PySem.W.codeIn K cd_Sum_mul "Sum.__mul__" = true)
    (k_Sum_mul : PySem.W.keepIn K (.ref a_Sum_mul) = true)
    (f_Sum_neg : PySem.W.findIn K (.ref a_Sum) "__neg__" = some (some (.ref a_Sum_neg)))
    (i_Sum_neg : PySem.W.isFn K (.ref a_Sum_neg) = true)
    (l_Sum_neg : K.lookup a_Sum_neg = some ⟨oc_Sum_neg, od_Sum_neg, .func (PySem.W.fnOf "__neg__" "Sum.__neg__" (defArgs s_Sum_neg) (defBody s_Sum_neg) (defScope s_Sum_neg) .none kV_Sum_neg dc_Sum_neg pm_Sum_neg an_Sum_neg cd_Sum_neg ct_Sum_neg), sl_Sum_neg⟩)
    (c_Sum_neg : PySem.W.codeIn K cd_Sum_neg "Sum.__neg__" = true)
    (k_Sum_neg : PySem.W.keepIn K (.ref a_Sum_neg) = true)
    (f_Sum_eq : PySem.W.findIn K (.ref a_Sum) "__eq__" = some (some (.ref a_Sum_eq)))
    (i_Sum_eq : PySem.W.isFn K (.ref a_Sum_eq) = true)
    (l_Sum_eq : K.lookup a_Sum_eq = some ⟨oc_Sum_eq, od_Sum_eq, .func (PySem.W.fnOf "__eq__" "Sum.__eq__" (defArgs s_Sum_eq) (defBody s_Sum_eq) (defScope s_Sum_eq) .none kV_Sum_eq dc_Sum_eq pm_Sum_eq an_Sum_eq cd_Sum_eq ct_Sum_eq), sl_Sum_eq⟩)
    (c_Sum_eq : PySem.W.codeIn K cd_Sum_eq "Sum.__eq__" = true)
    (k_Sum_eq : PySem.W.keepIn K (.ref a_Sum_eq) = true)
    (g_law_source : PySem.W.nsIn K mainGlobals "_law_source" = some (some (.ref a_law_source)))
    (i_law_source : PySem.W.isFn K (.ref a_law_source) = true)
    (l_law_source : K.lookup a_law_source = some ⟨oc_law_source, od_law_source, .func (PySem.W.fnOf "_law_source" "_law_source" (defArgs s_law_source) (defBody s_law_source) (defScope s_law_source) .none kV_law_source dc_law_source pm_law_source an_law_source cd_law_source ct_law_source), sl_law_source⟩)
    (c_law_source : PySem.W.codeIn K cd_law_source "_law_source" = true)
    (k_law_source : PySem.W.keepIn K (.ref a_law_source) = true)
    (g_law_draw : PySem.W.nsIn K mainGlobals "_law_draw" = some (some (.ref a_law_draw)))
    (i_law_draw : PySem.W.isFn K (.ref a_law_draw) = true)
    (l_law_draw : K.lookup a_law_draw = some ⟨oc_law_draw, od_law_draw, .func (PySem.W.fnOf "_law_draw" "_law_draw" (defArgs s_law_draw) (defBody s_law_draw) (defScope s_law_draw) .none kV_law_draw dc_law_draw pm_law_draw an_law_draw cd_law_draw ct_law_draw), sl_law_draw⟩)
    (c_law_draw : PySem.W.codeIn K cd_law_draw "_law_draw" = true)
    (k_law_draw : PySem.W.keepIn K (.ref a_law_draw) = true)
    (g_law_pick : PySem.W.nsIn K mainGlobals "_law_pick" = some (some (.ref a_law_pick)))
    (i_law_pick : PySem.W.isFn K (.ref a_law_pick) = true)
    (l_law_pick : K.lookup a_law_pick = some ⟨oc_law_pick, od_law_pick, .func (PySem.W.fnOf "_law_pick" "_law_pick" (defArgs s_law_pick) (defBody s_law_pick) (defScope s_law_pick) .none kV_law_pick dc_law_pick pm_law_pick an_law_pick cd_law_pick ct_law_pick), sl_law_pick⟩)
    (c_law_pick : PySem.W.codeIn K cd_law_pick "_law_pick" = true)
    (k_law_pick : PySem.W.keepIn K (.ref a_law_pick) = true)
    (g_law_all_data : PySem.W.nsIn K mainGlobals "_law_all_data" = some (some (.ref a_law_all_data)))
    (i_law_all_data : PySem.W.isFn K (.ref a_law_all_data) = true)
    (l_law_all_data : K.lookup a_law_all_data = some ⟨oc_law_all_data, od_law_all_data, .func (PySem.W.fnOf "_law_all_data" "_law_all_data" (defArgs s_law_all_data) (defBody s_law_all_data) (defScope s_law_all_data) .none kV_law_all_data dc_law_all_data pm_law_all_data an_law_all_data cd_law_all_data ct_law_all_data), sl_law_all_data⟩)
    (c_law_all_data : PySem.W.codeIn K cd_law_all_data "_law_all_data" = true)
    (k_law_all_data : PySem.W.keepIn K (.ref a_law_all_data) = true)
    (g_law_value : PySem.W.nsIn K mainGlobals "_law_value" = some (some (.ref a_law_value)))
    (i_law_value : PySem.W.isFn K (.ref a_law_value) = true)
    (l_law_value : K.lookup a_law_value = some ⟨oc_law_value, od_law_value, .func (PySem.W.fnOf "_law_value" "_law_value" (defArgs s_law_value) (defBody s_law_value) (defScope s_law_value) .none kV_law_value dc_law_value pm_law_value an_law_value cd_law_value ct_law_value), sl_law_value⟩)
    (c_law_value : PySem.W.codeIn K cd_law_value "_law_value" = true)
    (k_law_value : PySem.W.keepIn K (.ref a_law_value) = true)
    (g_law_factors : PySem.W.nsIn K mainGlobals "_law_factors" = some (some (.ref a_law_factors)))
    (i_law_factors : PySem.W.isFn K (.ref a_law_factors) = true)
    (l_law_factors : K.lookup a_law_factors = some ⟨oc_law_factors, od_law_factors, .func (PySem.W.fnOf "_law_factors" "_law_factors" (defArgs s_law_factors) (defBody s_law_factors) (defScope s_law_factors) .none kV_law_factors dc_law_factors pm_law_factors an_law_factors cd_law_factors ct_law_factors), sl_law_factors⟩)
    (c_law_factors : PySem.W.codeIn K cd_law_factors "_law_factors" = true)
    (k_law_factors : PySem.W.keepIn K (.ref a_law_factors) = true)
    (g_law_form : PySem.W.nsIn K mainGlobals "_law_form" = some (some (.ref a_law_form)))
    (i_law_form : PySem.W.isFn K (.ref a_law_form) = true)
    (l_law_form : K.lookup a_law_form = some ⟨oc_law_form, od_law_form, .func (PySem.W.fnOf "_law_form" "_law_form" (defArgs s_law_form) (defBody s_law_form) (defScope s_law_form) .none kV_law_form dc_law_form pm_law_form an_law_form cd_law_form ct_law_form), sl_law_form⟩)
    (c_law_form : PySem.W.codeIn K cd_law_form "_law_form" = true)
    (k_law_form : PySem.W.keepIn K (.ref a_law_form) = true)
    (g_law_sum_right : PySem.W.nsIn K mainGlobals "_law_sum_right" = some (some (.ref a_law_sum_right)))
    (i_law_sum_right : PySem.W.isFn K (.ref a_law_sum_right) = true)
    (l_law_sum_right : K.lookup a_law_sum_right = some ⟨oc_law_sum_right, od_law_sum_right, .func (PySem.W.fnOf "_law_sum_right" "_law_sum_right" (defArgs s_law_sum_right) (defBody s_law_sum_right) (defScope s_law_sum_right) .none kV_law_sum_right dc_law_sum_right pm_law_sum_right an_law_sum_right cd_law_sum_right ct_law_sum_right), sl_law_sum_right⟩)
    (c_law_sum_right : PySem.W.codeIn K cd_law_sum_right "_law_sum_right" = true)
    (k_law_sum_right : PySem.W.keepIn K (.ref a_law_sum_right) = true)
    (g_law_pair_right : PySem.W.nsIn K mainGlobals "_law_pair_right" = some (some (.ref a_law_pair_right)))
    (i_law_pair_right : PySem.W.isFn K (.ref a_law_pair_right) = true)
    (l_law_pair_right : K.lookup a_law_pair_right = some ⟨oc_law_pair_right, od_law_pair_right, .func (PySem.W.fnOf "_law_pair_right" "_law_pair_right" (defArgs s_law_pair_right) (defBody s_law_pair_right) (defScope s_law_pair_right) .none kV_law_pair_right dc_law_pair_right pm_law_pair_right an_law_pair_right cd_law_pair_right ct_law_pair_right), sl_law_pair_right⟩)
    (c_law_pair_right : PySem.W.codeIn K cd_law_pair_right "_law_pair_right" = true)
    (k_law_pair_right : PySem.W.keepIn K (.ref a_law_pair_right) = true)
    (g_law : PySem.W.nsIn K mainGlobals "law" = some (some (.ref a_law)))
    (i_law : PySem.W.isFn K (.ref a_law) = true)
    (l_law : K.lookup a_law = some ⟨oc_law, od_law, .func (PySem.W.fnOf "law" "law" (defArgs s_law) (defBody s_law) (defScope s_law) .none kV_law dc_law pm_law an_law cd_law ct_law), sl_law⟩)
    (c_law : PySem.W.codeIn K cd_law "law" = true)
    (k_law : PySem.W.keepIn K (.ref a_law) = true)
    (n_isinstance : PySem.W.nsIn K mainGlobals "isinstance" = some none)
    (n_int : PySem.W.nsIn K mainGlobals "int" = some none)
    (n_bool : PySem.W.nsIn K mainGlobals "bool" = some none)
    (n_list : PySem.W.nsIn K mainGlobals "list" = some none)
    (n_tuple : PySem.W.nsIn K mainGlobals "tuple" = some none)
    (n_len : PySem.W.nsIn K mainGlobals "len" = some none)
    (n_all : PySem.W.nsIn K mainGlobals "all" = some none)
    (n_any : PySem.W.nsIn K mainGlobals "any" = some none)
    (n_sum : PySem.W.nsIn K mainGlobals "sum" = some none)
    (n_zip : PySem.W.nsIn K mainGlobals "zip" = some none)
    (n_max : PySem.W.nsIn K mainGlobals "max" = some none)
    (n_min : PySem.W.nsIn K mainGlobals "min" = some none)
    (n_range : PySem.W.nsIn K mainGlobals "range" = some none)
    (pgC : PySem.W.plainGet K a_Sum Str.empty = true)
    (hdC : PySem.W.hasDictIn K a_Sum = true)
    (poC : PySem.W.plainOver K a_Sum = true)
    (saC : PySem.W.findIn K (.ref a_Sum) "__setattr__" = some (some (.builtin "object.__setattr__")))
    (mkC : PySem.W.makesIn K a_Sum = true)
    (kpC : PySem.W.keepIn K (.ref a_Sum) = true)
    (clC : PySem.W.findIn K (.ref a_Sum) "__class__" = some (some (.builtin "object.__class__")))
    (gtC : PySem.W.specialIn K (.builtin "object.__class__") "__get__" = some (some (.builtin "getset_descriptor.__get__")))
    (tkC : PySem.W.takesIn K (.builtin "object.__class__") = some true)
    (moC : PySem.W.mroIn K a_Sum (.type "object") = some true)
    (sfC : PySem.W.selfFirst K a_Sum = true)
    (rmC : PySem.W.findIn K (.ref a_Sum) "__rmul__" = some none)
    (neC : PySem.W.findIn K (.ref a_Sum) "__ne__" = some (some (.builtin "object.__ne__")))
    (imC : ∃ fo, PySem.W.findIn K (.type "int") "__mul__" = some fo)
    (irC : ∃ fo, PySem.W.findIn K (.type "int") "__rmul__" = some fo)
    (isC : PySem.W.subIn K (.type "int") (.ref a_Sum) = some false)
    (ntC : PySem.W.notFirst K a_Sum (.type "tuple") = true)
    (nsC : PySem.W.notFirst K a_Sum (.ref a_Sum) = true)
    (ktC : PySem.W.kitOne K (.type "tuple") (.ref a_Sum) = some false)
    (ksC : PySem.W.kitOne K (.ref a_Sum) (.ref a_Sum) = some true)
    (fiC : PySem.W.fnIn K a_Sum_call = true)
    (npC : PySem.W.findIn K (.ref a_Sum) "_prime" = some none)
    (nfC : PySem.W.findIn K (.ref a_Sum) "_factors" = some none)
    (gG : PySem.W.nsIn K mainGlobals "GREATEST_SIZES" = some (some (.ref a_GS)))
    (lG : K.lookup a_GS = some ⟨.type "dict", none, .dict #[⟨h1, .int 2 t1, .int 6 u1⟩, ⟨h2, .int 3 t2, .int 6 u2⟩, ⟨h3, .int 5 t3, .int 5 u3⟩, ⟨h4, .int 7 t4, .int 4 u4⟩] n0, #[]⟩)
    (eG : h1 = hashInt 2 ∧ h2 = hashInt 3 ∧ h3 = hashInt 5 ∧ h4 = hashInt 7)
    (oG : (a_GS == sysModules) = false) :
    ∃ fd : FuncData, (∀ (s : Shared) (v : Value), BindsTo s fd ⟨[v], []⟩ [("_law_script", v)]) ∧ ∀ base : Heap, K.In base → base.Ns mainGlobals mg → FnOk l.prog w K mg base CX0 9 fa fd ["_law_script"] (spD 1 W_law K) := by
  have e := hfa.symm.trans (PySem.W.mg_of X G g_law)
  have e2 : a_law = fa := by cases e; rfl
  let T : Tx l.prog w K mg := {
    a_Sum := a_Sum
    g_Sum := PySem.W.mg_of X G g_Sum
    a_is_integer := a_is_integer
    f_is_integer := _
    F_is_integer := fun_mk (st := s_is_integer) l_is_integer c_is_integer k_is_integer
    b_is_integer := (fun_mk (st := s_is_integer) l_is_integer c_is_integer k_is_integer).binds fun _ _ _ _ _ _ us hl => match us, hl with | [_], _ => rfl
    g_is_integer := PySem.W.mg_of X G g_is_integer
    a_is_between := a_is_between
    f_is_between := _
    F_is_between := fun_mk (st := s_is_between) l_is_between c_is_between k_is_between
    b_is_between := (fun_mk (st := s_is_between) l_is_between c_is_between k_is_between).binds fun _ _ _ _ _ _ us hl => match us, hl with | [_, _, _], _ => rfl
    g_is_between := PySem.W.mg_of X G g_is_between
    a_has_items := a_has_items
    f_has_items := _
    F_has_items := fun_mk (st := s_has_items) l_has_items c_has_items k_has_items
    b_has_items := (fun_mk (st := s_has_items) l_has_items c_has_items k_has_items).binds fun _ _ _ _ _ _ us hl => match us, hl with | [_, _, _], _ => rfl
    g_has_items := PySem.W.mg_of X G g_has_items
    a_all_between := a_all_between
    f_all_between := _
    F_all_between := fun_mk (st := s_all_between) l_all_between c_all_between k_all_between
    b_all_between := (fun_mk (st := s_all_between) l_all_between c_all_between k_all_between).binds fun _ _ _ _ _ _ us hl => match us, hl with | [_, _, _], _ => rfl
    g_all_between := PySem.W.mg_of X G g_all_between
    a_is_prime := a_is_prime
    f_is_prime := _
    F_is_prime := fun_mk (st := s_is_prime) l_is_prime c_is_prime k_is_prime
    b_is_prime := (fun_mk (st := s_is_prime) l_is_prime c_is_prime k_is_prime).binds fun _ _ _ _ _ _ us hl => match us, hl with | [_], _ => rfl
    g_is_prime := PySem.W.mg_of X G g_is_prime
    a_is_size := a_is_size
    f_is_size := _
    F_is_size := fun_mk (st := s_is_size) l_is_size c_is_size k_is_size
    b_is_size := (fun_mk (st := s_is_size) l_is_size c_is_size k_is_size).binds fun _ _ _ _ _ _ us hl => match us, hl with | [_, _], _ => rfl
    g_is_size := PySem.W.mg_of X G g_is_size
    a_is_data := a_is_data
    f_is_data := _
    F_is_data := fun_mk (st := s_is_data) l_is_data c_is_data k_is_data
    b_is_data := (fun_mk (st := s_is_data) l_is_data c_is_data k_is_data).binds fun _ _ _ _ _ _ us hl => match us, hl with | [_, _, _], _ => rfl
    g_is_data := PySem.W.mg_of X G g_is_data
    a_expect_prime_and_size := a_expect_prime_and_size
    f_expect_prime_and_size := _
    F_expect_prime_and_size := fun_mk (st := s_expect_prime_and_size) l_expect_prime_and_size c_expect_prime_and_size k_expect_prime_and_size
    b_expect_prime_and_size := (fun_mk (st := s_expect_prime_and_size) l_expect_prime_and_size c_expect_prime_and_size k_expect_prime_and_size).binds fun _ _ _ _ _ _ us hl => match us, hl with | [_, _], _ => rfl
    g_expect_prime_and_size := PySem.W.mg_of X G g_expect_prime_and_size
    a_is_sum := a_is_sum
    f_is_sum := _
    F_is_sum := fun_mk (st := s_is_sum) l_is_sum c_is_sum k_is_sum
    b_is_sum := (fun_mk (st := s_is_sum) l_is_sum c_is_sum k_is_sum).binds fun _ _ _ _ _ _ us hl => match us, hl with | [_, _, _], _ => rfl
    g_is_sum := PySem.W.mg_of X G g_is_sum
    a_Sum_init := a_Sum_init
    f_Sum_init := _
    F_Sum_init := fun_mk (st := s_Sum_init) l_Sum_init c_Sum_init k_Sum_init
    b_Sum_init := (fun_mk (st := s_Sum_init) l_Sum_init c_Sum_init k_Sum_init).binds fun _ _ _ _ _ _ us hl => match us, hl with | [_, _, _], _ => rfl
    a_Sum_unit := a_Sum_unit
    f_Sum_unit := _
    F_Sum_unit := fun_mk (st := s_Sum_unit) l_Sum_unit c_Sum_unit k_Sum_unit
    b_Sum_unit := (fun_mk (st := s_Sum_unit) l_Sum_unit c_Sum_unit k_Sum_unit).binds fun _ _ _ _ _ _ us hl => match us, hl with | [_, _, _], _ => rfl
    a_Sum_prime := a_Sum_prime
    f_Sum_prime := _
    F_Sum_prime := fun_mk (st := s_Sum_prime) l_Sum_prime c_Sum_prime k_Sum_prime
    b_Sum_prime := (fun_mk (st := s_Sum_prime) l_Sum_prime c_Sum_prime k_Sum_prime).binds fun _ _ _ _ _ _ us hl => match us, hl with | [_], _ => rfl
    a_Sum_factors := a_Sum_factors
    f_Sum_factors := _
    F_Sum_factors := fun_mk (st := s_Sum_factors) l_Sum_factors c_Sum_factors k_Sum_factors
    b_Sum_factors := (fun_mk (st := s_Sum_factors) l_Sum_factors c_Sum_factors k_Sum_factors).binds fun _ _ _ _ _ _ us hl => match us, hl with | [_], _ => rfl
    a_Sum_size := a_Sum_size
    f_Sum_size := _
    F_Sum_size := fun_mk (st := s_Sum_size) l_Sum_size c_Sum_size k_Sum_size
    b_Sum_size := (fun_mk (st := s_Sum_size) l_Sum_size c_Sum_size k_Sum_size).binds fun _ _ _ _ _ _ us hl => match us, hl with | [_], _ => rfl
    a_Sum_is_zero := a_Sum_is_zero
    f_Sum_is_zero := _
    F_Sum_is_zero := fun_mk (st := s_Sum_is_zero) l_Sum_is_zero c_Sum_is_zero k_Sum_is_zero
    b_Sum_is_zero := (fun_mk (st := s_Sum_is_zero) l_Sum_is_zero c_Sum_is_zero k_Sum_is_zero).binds fun _ _ _ _ _ _ us hl => match us, hl with | [_], _ => rfl
    a_Sum_call := a_Sum_call
    f_Sum_call := _
    F_Sum_call := fun_mk (st := s_Sum_call) l_Sum_call c_Sum_call k_Sum_call
    b_Sum_call := (fun_mk (st := s_Sum_call) l_Sum_call c_Sum_call k_Sum_call).binds fun _ _ _ _ _ _ us hl => match us, hl with | [_, _], _ => rfl
    a_Sum_add := a_Sum_add
    f_Sum_add := _
    F_Sum_add := fun_mk (st := s_Sum_add) l_Sum_add c_Sum_add k_Sum_add
    b_Sum_add := (fun_mk (st := s_Sum_add) l_Sum_add c_Sum_add k_Sum_add).binds fun _ _ _ _ _ _ us hl => match us, hl with | [_, _], _ => rfl
    a_Sum_sub := a_Sum_sub
    f_Sum_sub := _
    F_Sum_sub := fun_mk (st := s_Sum_sub) l_Sum_sub c_Sum_sub k_Sum_sub
    b_Sum_sub := (fun_mk (st := s_Sum_sub) l_Sum_sub c_Sum_sub k_Sum_sub).binds fun _ _ _ _ _ _ us hl => match us, hl with | [_, _], _ => rfl
    a_Sum_mul := a_Sum_mul
    f_Sum_mul := _
    F_Sum_mul := fun_mk (st := s_Sum_mul) l_Sum_mul c_Sum_mul k_Sum_mul
    b_Sum_mul := (fun_mk (st := s_Sum_mul) l_Sum_mul c_Sum_mul k_Sum_mul).binds fun _ _ _ _ _ _ us hl => match us, hl with | [_, _], _ => rfl
    a_Sum_neg := a_Sum_neg
    f_Sum_neg := _
    F_Sum_neg := fun_mk (st := s_Sum_neg) l_Sum_neg c_Sum_neg k_Sum_neg
    b_Sum_neg := (fun_mk (st := s_Sum_neg) l_Sum_neg c_Sum_neg k_Sum_neg).binds fun _ _ _ _ _ _ us hl => match us, hl with | [_], _ => rfl
    a_Sum_eq := a_Sum_eq
    f_Sum_eq := _
    F_Sum_eq := fun_mk (st := s_Sum_eq) l_Sum_eq c_Sum_eq k_Sum_eq
    b_Sum_eq := (fun_mk (st := s_Sum_eq) l_Sum_eq c_Sum_eq k_Sum_eq).binds fun _ _ _ _ _ _ us hl => match us, hl with | [_, _], _ => rfl
    a_law_source := a_law_source
    f_law_source := _
    F_law_source := fun_mk (st := s_law_source) l_law_source c_law_source k_law_source
    b_law_source := (fun_mk (st := s_law_source) l_law_source c_law_source k_law_source).binds fun _ _ _ _ _ _ us hl => match us, hl with | [_, _], _ => rfl
    g_law_source := PySem.W.mg_of X G g_law_source
    a_law_draw := a_law_draw
    f_law_draw := _
    F_law_draw := fun_mk (st := s_law_draw) l_law_draw c_law_draw k_law_draw
    b_law_draw := (fun_mk (st := s_law_draw) l_law_draw c_law_draw k_law_draw).binds fun _ _ _ _ _ _ us hl => match us, hl with | [_, _], _ => rfl
    g_law_draw := PySem.W.mg_of X G g_law_draw
    a_law_pick := a_law_pick
    f_law_pick := _
    F_law_pick := fun_mk (st := s_law_pick) l_law_pick c_law_pick k_law_pick
    b_law_pick := (fun_mk (st := s_law_pick) l_law_pick c_law_pick k_law_pick).binds fun _ _ _ _ _ _ us hl => match us, hl with | [_, _], _ => rfl
    g_law_pick := PySem.W.mg_of X G g_law_pick
    a_law_all_data := a_law_all_data
    f_law_all_data := _
    F_law_all_data := fun_mk (st := s_law_all_data) l_law_all_data c_law_all_data k_law_all_data
    b_law_all_data := (fun_mk (st := s_law_all_data) l_law_all_data c_law_all_data k_law_all_data).binds fun _ _ _ _ _ _ us hl => match us, hl with | [_, _], _ => rfl
    g_law_all_data := PySem.W.mg_of X G g_law_all_data
    a_law_value := a_law_value
    f_law_value := _
    F_law_value := fun_mk (st := s_law_value) l_law_value c_law_value k_law_value
    b_law_value := (fun_mk (st := s_law_value) l_law_value c_law_value k_law_value).binds fun _ _ _ _ _ _ us hl => match us, hl with | [_, _, _], _ => rfl
    g_law_value := PySem.W.mg_of X G g_law_value
    a_law_factors := a_law_factors
    f_law_factors := _
    F_law_factors := fun_mk (st := s_law_factors) l_law_factors c_law_factors k_law_factors
    b_law_factors := (fun_mk (st := s_law_factors) l_law_factors c_law_factors k_law_factors).binds fun _ _ _ _ _ _ us hl => match us, hl with | [_, _, _], _ => rfl
    g_law_factors := PySem.W.mg_of X G g_law_factors
    a_law_form := a_law_form
    f_law_form := _
    F_law_form := fun_mk (st := s_law_form) l_law_form c_law_form k_law_form
    b_law_form := (fun_mk (st := s_law_form) l_law_form c_law_form k_law_form).binds fun _ _ _ _ _ _ us hl => match us, hl with | [_], _ => rfl
    g_law_form := PySem.W.mg_of X G g_law_form
    a_law_sum_right := a_law_sum_right
    f_law_sum_right := _
    F_law_sum_right := fun_mk (st := s_law_sum_right) l_law_sum_right c_law_sum_right k_law_sum_right
    b_law_sum_right := (fun_mk (st := s_law_sum_right) l_law_sum_right c_law_sum_right k_law_sum_right).binds fun _ _ _ _ _ _ us hl => match us, hl with | [_, _, _], _ => rfl
    g_law_sum_right := PySem.W.mg_of X G g_law_sum_right
    a_law_pair_right := a_law_pair_right
    f_law_pair_right := _
    F_law_pair_right := fun_mk (st := s_law_pair_right) l_law_pair_right c_law_pair_right k_law_pair_right
    b_law_pair_right := (fun_mk (st := s_law_pair_right) l_law_pair_right c_law_pair_right k_law_pair_right).binds fun _ _ _ _ _ _ us hl => match us, hl with | [_, _, _, _], _ => rfl
    g_law_pair_right := PySem.W.mg_of X G g_law_pair_right
    a_law := a_law
    f_law := _
    F_law := fun_mk (st := s_law) l_law c_law k_law
    b_law := (fun_mk (st := s_law) l_law c_law k_law).binds fun _ _ _ _ _ _ us hl => match us, hl with | [_], _ => rfl
    g_law := PySem.W.mg_of X G g_law
    n_isinstance := PySem.W.mg_none_of X G n_isinstance
    n_int := PySem.W.mg_none_of X G n_int
    n_bool := PySem.W.mg_none_of X G n_bool
    n_list := PySem.W.mg_none_of X G n_list
    n_tuple := PySem.W.mg_none_of X G n_tuple
    n_len := PySem.W.mg_none_of X G n_len
    n_all := PySem.W.mg_none_of X G n_all
    n_any := PySem.W.mg_none_of X G n_any
    n_sum := PySem.W.mg_none_of X G n_sum
    n_zip := PySem.W.mg_none_of X G n_zip
    n_max := PySem.W.mg_none_of X G n_max
    n_min := PySem.W.mg_none_of X G n_min
    n_range := PySem.W.mg_none_of X G n_range
    c_Sum := ⟨⟨pgC, hdC, poC, saC⟩, clC, gtC, tkC, moC⟩
    m_Sum := ⟨mkC, f_Sum_init, i_Sum_init, kpC⟩
    sf_Sum := sfC
    o_add := f_Sum_add
    i_add := i_Sum_add
    o_sub := f_Sum_sub
    i_sub := i_Sum_sub
    o_mul := f_Sum_mul
    i_mul := i_Sum_mul
    o_rmul := rmC
    ii_mul := imC
    ii_rmul := irC
    ii_sub := isC
    o_neg := f_Sum_neg
    i_neg := i_Sum_neg
    o_eq := f_Sum_eq
    i_eq := i_Sum_eq
    o_ne := neC
    nf_tuple := ntC
    nf_Sum := nsC
    kt_tuple := ktC
    kt_Sum := ksC
    call_Sum := ⟨f_Sum_call, i_Sum_call, fiC⟩
    na_prime := npC
    na_factors := nfC
    mc := .type "type"
    q_unit := q_unit
    sm_unit := ⟨sr_unit, sg_unit, sa_unit, ⟨_, sc_unit⟩, k_Sum_unit⟩
    a_GS := a_GS
    g_GS := PySem.W.mg_of X G gG
    d_GS := gs_dict lG eG oG
    q_prime := q_prime
    pp_prime := ⟨pa_prime, pg_prime, pt_prime, ⟨_, pc_prime⟩⟩
    q_factors := q_factors
    pp_factors := ⟨pa_factors, pg_factors, pt_factors, ⟨_, pc_factors⟩⟩
    q_size := q_size
    pp_size := ⟨pa_size, pg_size, pt_size, ⟨_, pc_size⟩⟩
    q_is_zero := q_is_zero
    pp_is_zero := ⟨pa_is_zero, pg_is_zero, pt_is_zero, ⟨_, pc_is_zero⟩⟩ }
  refine ⟨T.f_law, fun s v => .of_eq rfl, fun base _ _ => ?_⟩
  rw [← e2]
  exact ok_law T
end K01
open PySem PySem.W PyProof.Rows
set_option maxRecDepth 100000 in
set_option maxHeartbeats 0 in
theorem PySem.Challenge.cw_leastreads_k01_sums_calculated_holds : PySem.Challenge.rw_leastreads_k01_sums_calculated.Holds := by
  w_on; o_law; k_head; (case hw => w_witness2)
  k_fill
  refine L2.walk_of (l := PySem.Challenge.rw_leastreads_k01_sums_calculated) (n := 63) (k := 9) (x := "_law_script") (CX := fun _ => L2.CX0) (sp := fun w => Pd.spD 1 K01.W_law _) rfl (by decide) rfl ⟨rfl, by decide, by decide⟩ (fun w h Y => PySem.W.kIn_of Y) ?F (fun _ H a ns hl _ hS => Pd.sp_script hS ⟨ns, rfl, rfl, rfl⟩) (fun _ _ _ _ _ h => h)
  case F =>
    intro w mg fa h KX G hmg
    refine' K01.all_mk KX G hmg ?g_Sum ?g_is_integer ?i_is_integer ?l_is_integer ?c_is_integer ?k_is_integer ?g_is_between ?i_is_between ?l_is_between ?c_is_between ?k_is_between ?g_has_items ?i_has_items ?l_has_items ?c_has_items ?k_has_items ?g_all_between ?i_all_between ?l_all_between ?c_all_between ?k_all_between ?g_is_prime ?i_is_prime ?l_is_prime ?c_is_prime ?k_is_prime ?g_is_size ?i_is_size ?l_is_size ?c_is_size ?k_is_size ?g_is_data ?i_is_data ?l_is_data ?c_is_data ?k_is_data ?g_expect_prime_and_size ?i_expect_prime_and_size ?l_expect_prime_and_size ?c_expect_prime_and_size ?k_expect_prime_and_size ?g_is_sum ?i_is_sum ?l_is_sum ?c_is_sum ?k_is_sum ?f_Sum_init ?i_Sum_init ?l_Sum_init ?c_Sum_init ?k_Sum_init ?sa_unit ?sr_unit ?sg_unit ?sc_unit ?i_Sum_unit ?l_Sum_unit ?c_Sum_unit ?k_Sum_unit ?pa_prime ?pg_prime ?pt_prime ?pc_prime ?i_Sum_prime ?l_Sum_prime ?c_Sum_prime ?k_Sum_prime ?pa_factors ?pg_factors ?pt_factors ?pc_factors ?i_Sum_factors ?l_Sum_factors ?c_Sum_factors ?k_Sum_factors ?pa_size ?pg_size ?pt_size ?pc_size ?i_Sum_size ?l_Sum_size ?c_Sum_size ?k_Sum_size ?pa_is_zero ?pg_is_zero ?pt_is_zero ?pc_is_zero ?i_Sum_is_zero ?l_Sum_is_zero ?c_Sum_is_zero ?k_Sum_is_zero ?f_Sum_call ?i_Sum_call ?l_Sum_call ?c_Sum_call ?k_Sum_call ?f_Sum_add ?i_Sum_add ?l_Sum_add ?c_Sum_add ?k_Sum_add ?f_Sum_sub ?i_Sum_sub ?l_Sum_sub ?c_Sum_sub ?k_Sum_sub ?f_Sum_mul ?i_Sum_mul ?l_Sum_mul ?c_Sum_mul ?k_Sum_mul ?f_Sum_neg ?i_Sum_neg ?l_Sum_neg ?c_Sum_neg ?k_Sum_neg ?f_Sum_eq ?i_Sum_eq ?l_Sum_eq ?c_Sum_eq ?k_Sum_eq ?g_law_source ?i_law_source ?l_law_source ?c_law_source ?k_law_source ?g_law_draw ?i_law_draw ?l_law_draw ?c_law_draw ?k_law_draw ?g_law_pick ?i_law_pick ?l_law_pick ?c_law_pick ?k_law_pick ?g_law_all_data ?i_law_all_data ?l_law_all_data ?c_law_all_data ?k_law_all_data ?g_law_value ?i_law_value ?l_law_value ?c_law_value ?k_law_value ?g_law_factors ?i_law_factors ?l_law_factors ?c_law_factors ?k_law_factors ?g_law_form ?i_law_form ?l_law_form ?c_law_form ?k_law_form ?g_law_sum_right ?i_law_sum_right ?l_law_sum_right ?c_law_sum_right ?k_law_sum_right ?g_law_pair_right ?i_law_pair_right ?l_law_pair_right ?c_law_pair_right ?k_law_pair_right ?g_law ?i_law ?l_law ?c_law ?k_law ?n_isinstance ?n_int ?n_bool ?n_list ?n_tuple ?n_len ?n_all ?n_any ?n_sum ?n_zip ?n_max ?n_min ?n_range ?pgC ?hdC ?poC ?saC ?mkC ?kpC ?clC ?gtC ?tkC ?moC ?sfC ?rmC ?neC ?imC ?irC ?isC ?ntC ?nsC ?ktC ?ksC ?fiC ?npC ?nfC ?gG ?lG ?eG ?oG
    (case g_Sum => k_is)
    (case g_is_integer => k_is)
    (case i_is_integer => k_is)
    (case l_is_integer => k_is)
    (case c_is_integer => k_is)
    (case k_is_integer => k_is)
    (case g_is_between => k_is)
    (case i_is_between => k_is)
    (case l_is_between => k_is)
    (case c_is_between => k_is)
    (case k_is_between => k_is)
    (case g_has_items => k_is)
    (case i_has_items => k_is)
    (case l_has_items => k_is)
    (case c_has_items => k_is)
    (case k_has_items => k_is)
    (case g_all_between => k_is)
    (case i_all_between => k_is)
    (case l_all_between => k_is)
    (case c_all_between => k_is)
    (case k_all_between => k_is)
    (case g_is_prime => k_is)
    (case i_is_prime => k_is)
    (case l_is_prime => k_is)
    (case c_is_prime => k_is)
    (case k_is_prime => k_is)
    (case g_is_size => k_is)
    (case i_is_size => k_is)
    (case l_is_size => k_is)
    (case c_is_size => k_is)
    (case k_is_size => k_is)
    (case g_is_data => k_is)
    (case i_is_data => k_is)
    (case l_is_data => k_is)
    (case c_is_data => k_is)
    (case k_is_data => k_is)
    (case g_expect_prime_and_size => k_is)
    (case i_expect_prime_and_size => k_is)
    (case l_expect_prime_and_size => k_is)
    (case c_expect_prime_and_size => k_is)
    (case k_expect_prime_and_size => k_is)
    (case g_is_sum => k_is)
    (case i_is_sum => k_is)
    (case l_is_sum => k_is)
    (case c_is_sum => k_is)
    (case k_is_sum => k_is)
    (case f_Sum_init => k_is)
    (case i_Sum_init => k_is)
    (case l_Sum_init => k_is)
    (case c_Sum_init => k_is)
    (case k_Sum_init => k_is)
    (case sa_unit => k_is)
    (case sr_unit => k_is)
    (case sg_unit => k_is)
    (case sc_unit => k_is)
    (case i_Sum_unit => k_is)
    (case l_Sum_unit => k_is)
    (case c_Sum_unit => k_is)
    (case k_Sum_unit => k_is)
    (case pa_prime => k_is)
    (case pg_prime => k_is)
    (case pt_prime => k_is)
    (case pc_prime => k_is)
    (case i_Sum_prime => k_is)
    (case l_Sum_prime => k_is)
    (case c_Sum_prime => k_is)
    (case k_Sum_prime => k_is)
    (case pa_factors => k_is)
    (case pg_factors => k_is)
    (case pt_factors => k_is)
    (case pc_factors => k_is)
    (case i_Sum_factors => k_is)
    (case l_Sum_factors => k_is)
    (case c_Sum_factors => k_is)
    (case k_Sum_factors => k_is)
    (case pa_size => k_is)
    (case pg_size => k_is)
    (case pt_size => k_is)
    (case pc_size => k_is)
    (case i_Sum_size => k_is)
    (case l_Sum_size => k_is)
    (case c_Sum_size => k_is)
    (case k_Sum_size => k_is)
    (case pa_is_zero => k_is)
    (case pg_is_zero => k_is)
    (case pt_is_zero => k_is)
    (case pc_is_zero => k_is)
    (case i_Sum_is_zero => k_is)
    (case l_Sum_is_zero => k_is)
    (case c_Sum_is_zero => k_is)
    (case k_Sum_is_zero => k_is)
    (case f_Sum_call => k_is)
    (case i_Sum_call => k_is)
    (case l_Sum_call => k_is)
    (case c_Sum_call => k_is)
    (case k_Sum_call => k_is)
    (case f_Sum_add => k_is)
    (case i_Sum_add => k_is)
    (case l_Sum_add => k_is)
    (case c_Sum_add => k_is)
    (case k_Sum_add => k_is)
    (case f_Sum_sub => k_is)
    (case i_Sum_sub => k_is)
    (case l_Sum_sub => k_is)
    (case c_Sum_sub => k_is)
    (case k_Sum_sub => k_is)
    (case f_Sum_mul => k_is)
    (case i_Sum_mul => k_is)
    (case l_Sum_mul => k_is)
    (case c_Sum_mul => k_is)
    (case k_Sum_mul => k_is)
    (case f_Sum_neg => k_is)
    (case i_Sum_neg => k_is)
    (case l_Sum_neg => k_is)
    (case c_Sum_neg => k_is)
    (case k_Sum_neg => k_is)
    (case f_Sum_eq => k_is)
    (case i_Sum_eq => k_is)
    (case l_Sum_eq => k_is)
    (case c_Sum_eq => k_is)
    (case k_Sum_eq => k_is)
    (case g_law_source => k_is)
    (case i_law_source => k_is)
    (case l_law_source => k_is)
    (case c_law_source => k_is)
    (case k_law_source => k_is)
    (case g_law_draw => k_is)
    (case i_law_draw => k_is)
    (case l_law_draw => k_is)
    (case c_law_draw => k_is)
    (case k_law_draw => k_is)
    (case g_law_pick => k_is)
    (case i_law_pick => k_is)
    (case l_law_pick => k_is)
    (case c_law_pick => k_is)
    (case k_law_pick => k_is)
    (case g_law_all_data => k_is)
    (case i_law_all_data => k_is)
    (case l_law_all_data => k_is)
    (case c_law_all_data => k_is)
    (case k_law_all_data => k_is)
    (case g_law_value => k_is)
    (case i_law_value => k_is)
    (case l_law_value => k_is)
    (case c_law_value => k_is)
    (case k_law_value => k_is)
    (case g_law_factors => k_is)
    (case i_law_factors => k_is)
    (case l_law_factors => k_is)
    (case c_law_factors => k_is)
    (case k_law_factors => k_is)
    (case g_law_form => k_is)
    (case i_law_form => k_is)
    (case l_law_form => k_is)
    (case c_law_form => k_is)
    (case k_law_form => k_is)
    (case g_law_sum_right => k_is)
    (case i_law_sum_right => k_is)
    (case l_law_sum_right => k_is)
    (case c_law_sum_right => k_is)
    (case k_law_sum_right => k_is)
    (case g_law_pair_right => k_is)
    (case i_law_pair_right => k_is)
    (case l_law_pair_right => k_is)
    (case c_law_pair_right => k_is)
    (case k_law_pair_right => k_is)
    (case g_law => k_is)
    (case i_law => k_is)
    (case l_law => k_is)
    (case c_law => k_is)
    (case k_law => k_is)
    (case n_isinstance => k_is)
    (case n_int => k_is)
    (case n_bool => k_is)
    (case n_list => k_is)
    (case n_tuple => k_is)
    (case n_len => k_is)
    (case n_all => k_is)
    (case n_any => k_is)
    (case n_sum => k_is)
    (case n_zip => k_is)
    (case n_max => k_is)
    (case n_min => k_is)
    (case n_range => k_is)
    (case pgC => k_is)
    (case hdC => k_is)
    (case poC => k_is)
    (case saC => k_is)
    (case mkC => k_is)
    (case kpC => k_is)
    (case clC => k_is)
    (case gtC => k_is)
    (case tkC => k_is)
    (case moC => k_is)
    (case sfC => k_is)
    (case rmC => k_is)
    (case neC => k_is)
    (case imC => exact ⟨_, by k_is⟩)
    (case irC => exact ⟨_, by k_is⟩)
    (case isC => k_is)
    (case ntC => k_is)
    (case nsC => k_is)
    (case ktC => kit_is)
    (case ksC => kit_is)
    (case fiC => k_is)
    (case npC => k_is)
    (case nfC => k_is)
    (case gG => k_is)
    (case lG => k_is)
    (case eG => exact ⟨by decide +kernel, by decide +kernel, by decide +kernel, by decide +kernel⟩)
    (case oG => decide +kernel)

