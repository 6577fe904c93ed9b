import PyProof.Rows.All
import Wide.All
import OpenK.AllK
import Wide.FinOn
import PyProof.EqAt
import PyProof.EqKinds
import PyProof.TupleCall
import HandS.ForMost
import HandS.Property
import HandS.Star
import HandS.IsInst
import HandS.Zip
import HandS.ExcInit
import HandS.ExcValue
import HandS.Lambda
import HandS.SlotsOwn
import HandS.ClsMeth
import KE.GoesMore
import HandS.TupAny
import HandS.TupMul
import KE.KDictZip
import HandS.Style
import HandS.ExcField
import HandS.ExcIs
import KE.KExcInit
import KE.KExcIs
import HandS.MakeKw
import HandS.MakeKwOnly
import HandS.Ends
import HandS.Iter
import HandS.Wide
import HandS.RaiseMore
import HandS.TryMany
import HandS.WordsExc
import HandS.EndTab
import OpenK.KMeth
import OpenK.KOps
import PyProof.P3In
import HandS.Deep
import HandS.GenBody
import HandS.GenYield
import HandS.GenCall
import HandS.GenList
import PyProof.StrOps2
import HandS.SetFor
import HandS.Strs
import HandS.SortKw
import HandS.Rev
import HandS.DictComp
import KE.DatumIndex
import KE.SortData
import HandS.TupSets
import KE.DatumOrd
import HandS.Conv
import HandS.IterVal
import HandS.OwnIter
import HandS.Defaults
import PySem.Challenge.RW_leastreads_k11_whole_answers_of_the_grou
import KE.KStar
import HandS.DictTup
import KE.GoesEnum
import KE.SortKeyHeap
import PyProof.Rows.Tup
import PyProof.TupleOfGen
import HandS.List
import KE.SortLaws
import KE.KRevSl
import KE.RegKIsAll
import KE.RegKTryMore
import KE.OsRunLaw
import HandS.Head2
set_option Elab.async false
set_option linter.all false
set_option maxRecDepth 100000
namespace Pd
open PySem PySem.Spec PyProof.Rows L2
/-- data; mut k is the k-th changeable object; ob a an object of the text (a class, a def) -/
inductive D where
  | non | bl (b : Bool) | int (i : Int) | str (x : Str) | lst (ds : List D) | tup (ds : List D) | ins (C : Addr) (fs : List (Str × D)) | mu (k : Nat) | ob (a : Addr)
  | ty (n : String) | exc (C : Addr) (fs : List (Str × D)) | dic (ks : List Key) (ds : List D) | dit (ks : List (List Key)) (ds : List D) | tfz (ns : List Int)
/-- what a changeable object holds -/
inductive MO where
  | lst (ds : List D) | ins (C : Addr) (fs : List (Str × D)) | tab (P : Addr) (q : Str) | dic (ks : List Key) (ds : List D) | dit (ks : List (List Key)) (ds : List D)
abbrev Ms := List MO
abbrev Rho := List (Option D)
section
variable (K : PySem.W.Frag) (as : List Addr) (H : Hp)
mutual
inductive Rp : V → D → Prop
  | non : Rp .non .non
  | bl (b : Bool) : Rp (.bl b) (.bl b)
  | int (i : Int) : Rp (.int i) (.int i)
  | str (x : Str) : Rp (.str x) (.str x)
  | lst {a : Addr} {xs : List V} {ds : List D} : SqL K H a xs → RpA xs ds → Rp (.ref a) (.lst ds)
  | tup {a : Addr} {xs : List V} {ds : List D} : SqT K H a xs → RpA xs ds → Rp (.ref a) (.tup ds)
  | ins {a C dx : Addr} {fs : List (Str × V)} {gs : List (Str × D)} : H a = some (.ins C dx fs) → RpF fs gs → Rp (.ref a) (.ins C gs)
  | mu {a : Addr} {k : Nat} : as[k]? = some a → Rp (.ref a) (.mu k)
  | ob (a : Addr) : Rp (.ref a) (.ob a)
  | ty (n : String) : Rp (.ty n) (.ty n)
  | exc {a C dx : Addr} {fs : List (Str × V)} {gs : List (Str × D)} : H a = some (exo a C (some dx)) → H dx = some (exd dx fs) → RpF fs gs → Rp (.ref a) (.exc C gs)
  | exc0 {a C : Addr} : H a = some (ExO (.ref C) a) → Rp (.ref a) (.exc C [])
  | dic {a : Addr} {ks : List Key} {vs : List V} {ds : List D} : (∃ o, H a = some (.frz o (.dK (ks.zip vs)))) → ks.length = vs.length → RpA vs ds → Rp (.ref a) (.dic ks ds)
  | dit {a : Addr} {ks : List (List Key)} {vs : List V} {ds : List D} : (∃ o, H a = some (.frz o (.dT (ks.zip vs)))) → ks.length = vs.length → RpA vs ds → Rp (.ref a) (.dit ks ds)
  | tfz {a : Addr} {ns : List Int} : (∃ o, H a = some (.frz o (.tup (ns.map V.int))) ∧ o.cls = .type "tuple" ∧ o.dict = none) → Rp (.ref a) (.tfz ns)
inductive RpA : List V → List D → Prop
  | nil : RpA [] []
  | cons {v : V} {vs : List V} {d : D} {ds : List D} : Rp v d → RpA vs ds → RpA (v :: vs) (d :: ds)
inductive RpF : List (Str × V) → List (Str × D) → Prop
  | nil : RpF [] []
  | cons {f : Str} {v : V} {fs : List (Str × V)} {d : D} {gs : List (Str × D)} : Rp v d → RpF fs gs → RpF ((f, v) :: fs) ((f, d) :: gs)
end
end
/-- all that is known stays -/
def Ex (H H' : Hp) : Prop := ∀ a o, H a = some o → H' a = some o
theorem Ex.refl (H : Hp) : Ex H H := fun _ _ h => h
theorem Ex.trans {H H1 H2 : Hp} (a : Ex H H1) (b : Ex H1 H2) : Ex H H2 := fun x o h => b x o (a x o h)
theorem Ex.new {H : Hp} {p : Addr} {o : HO} (h : H p = none) : Ex H (upd H p o) := fun a u e => by
  rw [upd_ne (ne_of_none e h)]
  exact e
theorem ex_rd {H H' : Hp} {a : Addr} {u : HO} (e : Ex H H') (h : Rd H a u) : Rd H' a u := by
  rcases h with h | ⟨o, h⟩
  · exact Or.inl (e a _ h)
  · exact Or.inr ⟨o, e a _ h⟩
theorem ex_l {K : PySem.W.Frag} {H H' : Hp} {a : Addr} {xs : List V} (e : Ex H H') (h : SqL K H a xs) : SqL K H' a xs := by
  rcases h with h | h
  · exact Or.inl (ex_rd e h)
  · exact Or.inr h
theorem ex_t {K : PySem.W.Frag} {H H' : Hp} {a : Addr} {xs : List V} (e : Ex H H') (h : SqT K H a xs) : SqT K H' a xs := by
  rcases h with h | h
  · exact Or.inl (ex_rd e h)
  · exact Or.inr h
section
variable {K : PySem.W.Frag} {as bs : List Addr} {H H' : Hp}
/-- more changeable objects stand behind -/
def Pre (as bs : List Addr) : Prop := ∀ (k : Nat) (a : Addr), as[k]? = some a → bs[k]? = some a
theorem Pre.refl (as : List Addr) : Pre as as := fun _ _ h => h
theorem Pre.trans {as bs cs : List Addr} (a : Pre as bs) (b : Pre bs cs) : Pre as cs := fun k x h => b k x (a k x h)
mutual
theorem Rp.mono (e : Ex H H') (p : Pre as bs) : ∀ {v : V} {d : D}, Rp K as H v d → Rp K bs H' v d
  | _, _, .non => .non
  | _, _, .bl b => .bl b
  | _, _, .int i => .int i
  | _, _, .str x => .str x
  | _, _, .lst h r => .lst (ex_l e h) (RpA.mono e p r)
  | _, _, .tup h r => .tup (ex_t e h) (RpA.mono e p r)
  | _, _, .ins h r => .ins (e _ _ h) (RpF.mono e p r)
  | _, _, .mu h => .mu (p _ _ h)
  | _, _, .ob a => .ob a
  | _, _, .ty n => .ty n
  | _, _, .exc h1 h2 r => .exc (e _ _ h1) (e _ _ h2) (RpF.mono e p r)
  | _, _, .exc0 h => .exc0 (e _ _ h)
  | _, _, .dic h l r => .dic (let ⟨o, q⟩ := h; ⟨o, e _ _ q⟩) l (RpA.mono e p r)
  | _, _, .dit h l r => .dit (let ⟨o, q⟩ := h; ⟨o, e _ _ q⟩) l (RpA.mono e p r)
  | _, _, .tfz h => .tfz (let ⟨o, q, n⟩ := h; ⟨o, e _ _ q, n⟩)
theorem RpA.mono (e : Ex H H') (p : Pre as bs) : ∀ {vs : List V} {ds : List D}, RpA K as H vs ds → RpA K bs H' vs ds
  | _, _, .nil => .nil
  | _, _, .cons r t => .cons (Rp.mono e p r) (RpA.mono e p t)
theorem RpF.mono (e : Ex H H') (p : Pre as bs) : ∀ {fs : List (Str × V)} {gs : List (Str × D)}, RpF K as H fs gs → RpF K bs H' fs gs
  | _, _, .nil => .nil
  | _, _, .cons r t => .cons (Rp.mono e p r) (RpF.mono e p t)
end
theorem RpA.length : ∀ {vs : List V} {ds : List D}, RpA K as H vs ds → vs.length = ds.length
  | _, _, .nil => rfl
  | _, _, .cons _ t => congrArg (· + 1) t.length
theorem RpA.get : ∀ {vs : List V} {ds : List D} {i : Nat} {d : D}, RpA K as H vs ds → ds[i]? = some d → ∃ v, vs[i]? = some v ∧ Rp K as H v d
  | _, _, _, _, .nil, e => by simp at e
  | _, _, 0, _, .cons r _, e => by simp at e; subst e; exact ⟨_, rfl, r⟩
  | _, _, i + 1, d, .cons _ t, e => by
    obtain ⟨v, h1, h2⟩ := RpA.get (i := i) (d := d) t (by simpa using e)
    exact ⟨v, by simpa using h1, h2⟩
theorem RpA.getV : ∀ {vs : List V} {ds : List D} {i : Nat} {v : V}, RpA K as H vs ds → vs[i]? = some v → ∃ d, ds[i]? = some d ∧ Rp K as H v d
  | _, _, _, _, .nil, e => by simp at e
  | _, _, 0, _, .cons r _, e => by simp at e; subst e; exact ⟨_, rfl, r⟩
  | _, _, i + 1, d, .cons _ t, e => by
    obtain ⟨v, h1, h2⟩ := RpA.getV (i := i) (v := d) t (by simpa using e)
    exact ⟨v, by simpa using h1, h2⟩
theorem RpA.append : ∀ {vs ws : List V} {ds es : List D}, RpA K as H vs ds → RpA K as H ws es → RpA K as H (vs ++ ws) (ds ++ es)
  | _, _, _, _, .nil, s => s
  | _, _, _, _, .cons r t, s => .cons r (RpA.append t s)
theorem RpA.one {v : V} {d : D} (r : Rp K as H v d) : RpA K as H [v] [d] := .cons r .nil
theorem RpF.look : ∀ {fs : List (Str × V)} {gs : List (Str × D)} {f : Str} {d : D}, RpF K as H fs gs → gs.lookup f = some d → ∃ v, fs.lookup f = some v ∧ Rp K as H v d
  | _, _, _, _, .nil, e => by simp at e
  | (g, v) :: fs, _, f, d, .cons (gs := gs) (d := dd) r t, e => by
    rw [List.lookup_cons] at e ⊢
    cases q : f == g with
    | true => rw [q] at e; cases e; exact ⟨_, rfl, r⟩
    | false => rw [q] at e; exact RpF.look t e
theorem RpF.lookN : ∀ {fs : List (Str × V)} {gs : List (Str × D)} {f : Str}, RpF K as H fs gs → gs.lookup f = none → fs.lookup f = none
  | _, _, _, .nil, e => rfl
  | (g, v) :: fs, _, f, .cons (gs := gs) (d := dd) r t, e => by
    rw [List.lookup_cons] at e ⊢
    cases q : f == g with
    | true => rw [q] at e; cases e
    | false => rw [q] at e; exact RpF.lookN t e
theorem RpF.length : ∀ {fs : List (Str × V)} {gs : List (Str × D)}, RpF K as H fs gs → fs.length = gs.length
  | _, _, .nil => rfl
  | _, _, .cons _ t => congrArg (· + 1) t.length
end
/-- the object at o holds m -/
inductive Ro (K : PySem.W.Frag) (as : List Addr) (H : Hp) : HO → MO → Prop
  | lst {xs : List V} {ds : List D} : RpA K as H xs ds → Ro K as H (.lst xs) (.lst ds)
  | ins {C dx : Addr} {fs : List (Str × V)} {gs : List (Str × D)} : RpF K as H fs gs → Ro K as H (.ins C dx fs) (.ins C gs)
  | tab {ps : Array Value} {P : Addr} {q : Str} : Ro K as H (.tbl ps) (.tab P q)
  | dic {ks : List Key} {vs : List V} {ds : List D} : ks.length = vs.length → RpA K as H vs ds → Ro K as H (.dK (ks.zip vs)) (.dic ks ds)
  | dit {ks : List (List Key)} {vs : List V} {ds : List D} : ks.length = vs.length → RpA K as H vs ds → Ro K as H (.dT (ks.zip vs)) (.dit ks ds)
theorem Ro.mono {K : PySem.W.Frag} {as bs : List Addr} {H H' : Hp} {o : HO} {m : MO} (e : Ex H H') (p : Pre as bs) (r : Ro K as H o m) : Ro K bs H' o m := by
  cases r with
  | lst r => exact .lst (r.mono e p)
  | ins r => exact .ins (r.mono e p)
  | tab => exact .tab
  | dic l r => exact .dic l (r.mono e p)
  | dit l r => exact .dit l (r.mono e p)
/-- the table of code objects at a: what it tells bears the name q -/
def TabOk (H : Hp) (a : Addr) : HO → MO → Prop
  | .tbl ps, .tab P q => a = P ∧ TriplesOk ps.toList ∧ ∀ (pos : Pos) (cv : Value), codeAmong pos ps.toList = some cv → ∃ c, cv = .ref c ∧ H c = some (LamX.CodeO c q)
  | _, _ => True
/-- code objects stay -/
def KeepC (H H' : Hp) : Prop := ∀ c q, H c = some (LamX.CodeO c q) → H' c = some (LamX.CodeO c q)
theorem KeepC.refl (H : Hp) : KeepC H H := fun _ _ h => h
theorem KeepC.trans {H H1 H2 : Hp} (a : KeepC H H1) (b : KeepC H1 H2) : KeepC H H2 := fun c q h => b c q (a c q h)
theorem KeepC.of {H H' : Hp} (e : ∀ a o, H a = some o → H' a = some o) : KeepC H H' := fun c q h => e c _ h
theorem KeepC.new {H : Hp} {p : Addr} {o : HO} (h : H p = none) : KeepC H (upd H p o) := fun c q e => by
  rw [upd_ne (ne_of_none e h)]; exact e
def isExt : HO → Bool | .ext _ => true | _ => false
theorem KeepC.over {H : Hp} {p : Addr} {o u : HO} (h : H p = some u) (n : isExt u = false) : KeepC H (upd H p o) := fun c q e => by
  refine (upd_ne fun z => ?_).trans e
  rw [z, h] at e
  cases e
  cases n
theorem TabOk.keep {H H' : Hp} {a : Addr} {o : HO} {m : MO} (k : KeepC H H') (h : TabOk H a o m) : TabOk H' a o m := by
  cases o with
  | tbl ps =>
    cases m with
    | tab P q =>
      obtain ⟨h1, h2, h3⟩ := h
      refine ⟨h1, h2, fun pos cv hc => ?_⟩
      obtain ⟨c, h4, h5⟩ := h3 pos cv hc
      exact ⟨c, h4, k _ _ h5⟩
    | _ => trivial
  | _ => trivial
theorem Ro.noExt {K : PySem.W.Frag} {as : List Addr} {H : Hp} {o : HO} {m : MO} (r : Ro K as H o m) : isExt o = false := by cases r <;> rfl
def NoTab (L : Hp) : Prop := ∀ a ps, L a ≠ some (.tbl ps)
theorem NoTab.new {L : Hp} {p : Addr} {o : HO} (n : NoTab L) (h : ∀ ps, o ≠ .tbl ps) : NoTab (upd L p o) := fun a ps e => by
  by_cases z : a = p
  · rw [z, upd_same] at e; cases e; exact h ps rfl
  · rw [upd_ne z] at e; exact n a ps e
/-- L: what is known for good; H: the heap; as: where the changeable objects stand, M: what they hold -/
structure At (K : PySem.W.Frag) (as : List Addr) (M : Ms) (L H : Hp) : Prop where
  low : Ex L H
  len : as.length = M.length
  nd : as.Nodup
  mo : ∀ (k : Nat) (a : Addr) (m : MO), as[k]? = some a → M[k]? = some m → L a = none ∧ ∃ o, H a = some o ∧ Ro K as L o m ∧ TabOk H a o m
  nt : NoTab L
theorem At.held {K : PySem.W.Frag} {as : List Addr} {M : Ms} {L H : Hp} (A : At K as M L H) {a : Addr} (h : a ∈ as) : L a = none ∧ H a ≠ none := by
  obtain ⟨k, hk, e⟩ := List.getElem_of_mem h
  have e1 : as[k]? = some a := by rw [List.getElem?_eq_getElem hk, e]
  have hm : k < M.length := by rw [← A.len]; exact hk
  obtain ⟨h1, o, h2, _⟩ := A.mo k a _ e1 (List.getElem?_eq_getElem hm)
  exact ⟨h1, by rw [h2]; simp⟩
/-- a step: known things stay, hidden things stay hidden; bs: the changeable objects behind it -/
structure Step (as : List Addr) (L H : Hp) (bs : List Addr) (L' H' : Hp) : Prop where
  up : ∀ a o, a ∉ as → H a = some o → H' a = some o
  k : Ex L L'
  hid : ∀ a, L a = none → H a ≠ none → L' a = none
  pre : Pre as bs
  new : ∀ a ∈ bs, a ∈ as ∨ H a = none
theorem Step.refl {as : List Addr} {L H : Hp} : Step as L H as L H := ⟨fun _ _ _ h => h, Ex.refl _, fun _ h _ => h, Pre.refl _, fun _ h => .inl h⟩
theorem Step.trans {K : PySem.W.Frag} {as bs cs : List Addr} {M1 : Ms} {L H L1 H1 L2 H2 : Hp} (s : Step as L H bs L1 H1) (A1 : At K bs M1 L1 H1) (t : Step bs L1 H1 cs L2 H2) : Step as L H cs L2 H2 := by
  have there : ∀ a, H a ≠ none → H1 a ≠ none := fun a h => by
    by_cases ha : a ∈ as
    · obtain ⟨k, hk, e⟩ := List.getElem_of_mem ha
      have e1 : as[k]? = some a := by rw [List.getElem?_eq_getElem hk, e]
      have e2 := s.pre k a e1
      exact (A1.held (List.mem_of_getElem? e2)).2
    · cases q : H a with
      | none => exact absurd q h
      | some o => rw [s.up a o ha q]; simp
  refine ⟨fun a o ha h => ?_, s.k.trans t.k, fun a h h' => t.hid a (s.hid a h h') (there a h'), s.pre.trans t.pre, fun a ha => ?_⟩
  · have h1 := s.up a o ha h
    refine t.up a o (fun hb => ?_) h1
    rcases s.new a hb with z | z
    · exact ha z
    · rw [h] at z; cases z
  · rcases t.new a ha with z | z
    · exact s.new a z
    · right
      cases q : H a with
      | none => rfl
      | some o => exact absurd z (there a (by rw [q]; simp))
theorem Step.sub {as bs : List Addr} {L H L1 H1 : Hp} (s : Step as L H bs L1 H1) : Step as L H as L1 H1 := ⟨s.up, s.k, s.hid, Pre.refl _, fun _ h => .inl h⟩
/-- a new thing that is known for good -/
theorem At.know {K : PySem.W.Frag} {as : List Addr} {M : Ms} {L H : Hp} {p : Addr} {o : HO} (A : At K as M L H) (hp : H p = none) (ho : ∀ ps, o ≠ .tbl ps := by first | (intro ps z; cases z) | (intro ps z; unfold exo at z; cases z) | (intro ps z; unfold exd at z; cases z) | (intro ps z; unfold ExO at z; cases z)) : At K as M (upd L p o) (upd H p o) := by
  refine ⟨fun a u h => ?_, A.len, A.nd, fun k a m h1 h2 => ?_, A.nt.new ho⟩
  · by_cases e : a = p
    · subst e; rw [upd_same] at h ⊢; exact h
    · rw [upd_ne e] at h ⊢; exact A.low a u h
  · obtain ⟨h3, o', h4, h5⟩ := A.mo k a m h1 h2
    have e : a ≠ p := ne_of_none h4 hp
    have lp : L p = none := by
      cases q : L p with
      | none => rfl
      | some u => rw [A.low p u q] at hp; cases hp
    exact ⟨by rw [upd_ne e]; exact h3, o', by rw [upd_ne e]; exact h4, h5.1.mono (Ex.new lp) (Pre.refl _), h5.2.keep (KeepC.new hp)⟩
theorem Step.know {K : PySem.W.Frag} {as : List Addr} {M : Ms} {L H : Hp} {p : Addr} {o : HO} (A : At K as M L H) (hp : H p = none) : Step as L H as (upd L p o) (upd H p o) := by
  have lp : L p = none := by
    cases q : L p with
    | none => rfl
    | some u => rw [A.low p u q] at hp; cases hp
  refine ⟨fun a u _ h => ?_, Ex.new lp, fun a h h' => ?_, Pre.refl _, fun _ h => .inl h⟩
  · rw [upd_ne (ne_of_none h hp)]; exact h
  · have e : a ≠ p := fun z => h' (by rw [z]; exact hp)
    rw [upd_ne e]; exact h
/-- the slots -/
structure En (K : PySem.W.Frag) (as : List Addr) (L : Hp) (σ : L2.St) (ρ : Rho) : Prop where
  len : σ.length = ρ.length
  at_ : ∀ (i : Nat) (d : D), ρ[i]? = some (some d) → ∃ v, σ[i]? = some (some v) ∧ Rp K as L v d
theorem En.mono {K : PySem.W.Frag} {as bs : List Addr} {L L' : Hp} {σ : L2.St} {ρ : Rho} (e : Ex L L') (p : Pre as bs) (h : En K as L σ ρ) : En K bs L' σ ρ :=
  ⟨h.len, fun i d q => let ⟨v, h1, h2⟩ := h.at_ i d q; ⟨v, h1, h2.mono e p⟩⟩
theorem En.set {K : PySem.W.Frag} {as : List Addr} {L : Hp} {σ : L2.St} {ρ : Rho} {v : V} {d : D} (i : Nat) (h : En K as L σ ρ) (r : Rp K as L v d) : En K as L (σ.set i (some v)) (ρ.set i (some d)) := by
  refine ⟨by rw [List.length_set, List.length_set]; exact h.len, fun j e q => ?_⟩
  rw [List.getElem?_set] at q ⊢
  by_cases hj : i = j
  · subst hj
    rw [if_pos rfl] at q ⊢
    rw [h.len]
    split at q
    · rename_i hl
      rw [if_pos hl]
      cases q
      exact ⟨v, rfl, r⟩
    · cases q
  · rw [if_neg hj] at q ⊢
    exact h.at_ j e q
abbrev DE := Rho → Ms → (D → Ms → Prop) → Prop
abbrev DT := Rho → Ms → (Bool → Ms → Prop) → Prop
abbrev DA := Rho → Ms → (List D → Ms → Prop) → Prop
def SimE (K : PySem.W.Frag) (te : TE) (t : DE) : Prop := ∀ as σ ρ L H M P Q, En K as L σ ρ → At K as M L H → t ρ M P →
  (∀ v d L' H' M', Step as L H as L' H' → At K as M' L' H' → P d M' → Rp K as L' v d → Q v H') → te σ H Q
def SimT (K : PySem.W.Frag) (te : TT) (t : DT) : Prop := ∀ as σ ρ L H M P Q, En K as L σ ρ → At K as M L H → t ρ M P →
  (∀ b L' H' M', Step as L H as L' H' → At K as M' L' H' → P b M' → Q b H') → te σ H Q
def SimA (K : PySem.W.Frag) (te : TA) (t : DA) : Prop := ∀ as σ ρ L H M P Q, En K as L σ ρ → At K as M L H → t ρ M P →
  (∀ vs ds L' H' M', Step as L H as L' H' → At K as M' L' H' → P ds M' → RpA K as L' vs ds → Q vs H') → te σ H Q
structure PD (X : Cx) (e : Expr) (t : DE) : Prop where
  ex : ∃ te, PE X e te ∧ SimE X.K te t
structure PDT (X : Cx) (e : Expr) (t : DT) : Prop where
  ex : ∃ te, PT X e te ∧ SimT X.K te t
structure PDW (X : Cx) (e : Expr) (t : DT) : Prop where
  ex : ∃ te, PW X e te ∧ SimT X.K te t
structure PDA (X : Cx) (es : List Expr) (t : DA) : Prop where
  ex : ∃ te, PA X es te ∧ SimA X.K te t
section
variable {X : Cx} {a b c e : Expr} {es : List Expr} {ta tb tc : DE} {pos : Pos}
@[simp] def dVar (i : Nat) : DE := fun ρ M P => ∃ d, ρ[i]? = some (some d) ∧ P d M
theorem pd_name (i : Nat) {x : Str} (hN : X.N[i]? = some x := by rfl) (hv : Vis X.env.scope x := by first | exact Or.inl rfl | exact Or.inr (Or.inl rfl) | exact Or.inr (Or.inr rfl)) (hd : (x == ("__debug__" : Str)) = false := by decide)
    (hcd : (x == ("__classdict__" : Str)) = false := by decide) : PD X (.Name x pos) (dVar i) :=
  ⟨_, pv i hN hv hd hcd, fun as σ ρ L H M P Q hE A ⟨d, hd, p⟩ q => by
    obtain ⟨v, h1, h2⟩ := hE.at_ i d hd
    exact ⟨v, h1, q v d L H M .refl A p h2⟩⟩
@[simp] def dC (d : D) : DE := fun _ M P => P d M
theorem pd_int {i j} : PD X (.Constant (.int i) j pos) (dC (.int i)) := ⟨_, pe_int, fun as σ ρ L H M P Q hE A p q => q _ _ L H M .refl A p (.int i)⟩
theorem pd_bl {b j} : PD X (.Constant (.bool b) j pos) (dC (.bl b)) := ⟨_, pe_bl, fun as σ ρ L H M P Q hE A p q => q _ _ L H M .refl A p (.bl b)⟩
theorem pd_non {j} : PD X (.Constant .none j pos) (dC .non) := ⟨_, pe_non, fun as σ ρ L H M P Q hE A p q => q _ _ L H M .refl A p .non⟩
theorem pd_str {x j} : PD X (.Constant (.str x) j pos) (dC (.str x)) := ⟨_, pe_str, fun as σ ρ L H M P Q hE A p q => q _ _ L H M .refl A p (.str x)⟩
abbrev D2 := D → D → Ms → (D → Ms → Prop) → Prop
abbrev D1 := D → Ms → (D → Ms → Prop) → Prop
abbrev DC := List D → Ms → (D → Ms → Prop) → Prop
def SimR (K : PySem.W.Frag) (r : R2) (o : D2) : Prop := ∀ as L H M x y d e P Q, At K as M L H → Rp K as L x d → Rp K as L y e → o d e M P →
  (∀ v z L' H' M', Step as L H as L' H' → At K as M' L' H' → P z M' → Rp K as L' v z → Q v H') → r x y H Q
def SimU (K : PySem.W.Frag) (r : V → Hp → VK → Prop) (o : D1) : Prop := ∀ as L H M x d P Q, At K as M L H → Rp K as L x d → o d M P →
  (∀ v z L' H' M', Step as L H as L' H' → At K as M' L' H' → P z M' → Rp K as L' v z → Q v H') → r x H Q
def SimC (K : PySem.W.Frag) (r : List V → Hp → VK → Prop) (o : DC) : Prop := ∀ as L H M xs ds P Q, At K as M L H → RpA K as L xs ds → o ds M P →
  (∀ v z L' H' M', Step as L H as L' H' → At K as M' L' H' → P z M' → Rp K as L' v z → Q v H') → r xs H Q
@[simp] def d2 (o : D2) (ta tb : DE) : DE := fun ρ M P => ta ρ M fun x M1 => tb ρ M1 fun y M2 => o x y M2 P
@[simp] def d1 (o : D1) (ta : DE) : DE := fun ρ M P => ta ρ M fun x M1 => o x M1 P
theorem sim_op {K : PySem.W.Frag} {r : R2} {o : D2} {ua ub : TE} (hr : SimR K r o) (ha : SimE K ua ta) (hb : SimE K ub tb) : SimE K (tOp r ua ub) (d2 o ta tb) := by
  intro as σ ρ L H M P Q hE A h q
  refine ha as σ ρ L H M _ _ hE A h fun x d L1 H1 M1 s1 A1 h1 r1 => ?_
  refine hb as σ ρ L1 H1 M1 _ _ (hE.mono s1.k s1.pre) A1 h1 fun y e L2 H2 M2 s2 A2 h2 r2 => ?_
  refine hr as L2 H2 M2 x y d e P Q A2 (r1.mono s2.k s2.pre) r2 h2 fun v z L3 H3 M3 s3 A3 h3 r3 => ?_
  exact q v z L3 H3 M3 (s1.trans A1 (s2.trans A2 s3)) A3 h3 r3
theorem sim_un {K : PySem.W.Frag} {r : V → Hp → VK → Prop} {o : D1} {ua : TE} (hr : SimU K r o) (ha : SimE K ua ta) : SimE K (tUn r ua) (d1 o ta) := by
  intro as σ ρ L H M P Q hE A h q
  refine ha as σ ρ L H M _ _ hE A h fun x d L1 H1 M1 s1 A1 h1 r1 => ?_
  refine hr as L1 H1 M1 x d P Q A1 r1 h1 fun v z L3 H3 M3 s3 A3 h3 r3 => ?_
  exact q v z L3 H3 M3 (s1.trans A1 s3) A3 h3 r3
theorem pd_op {op : Operator} {r : R2} {o : D2} (ho : OpR X (binaryOp op) r) (hr : SimR X.K r o) (ha : PD X a ta) (hb : PD X b tb) : PD X (.BinOp a op b pos) (d2 o ta tb) := by
  obtain ⟨ua, pa, sa⟩ := ha.ex
  obtain ⟨ub, pb, sb⟩ := hb.ex
  exact ⟨_, pe_op ho pa pb, sim_op hr sa sb⟩
theorem pd_un {op : UnaryOp} {r : V → Hp → VK → Prop} {o : D1} (ho : UnR X (unaryOp op) r) (hr : SimU X.K r o) (ha : PD X a ta) : PD X (.UnaryOp op a pos) (d1 o ta) := by
  obtain ⟨ua, pa, sa⟩ := ha.ex
  exact ⟨_, pe_un ho pa, sim_un hr sa⟩
theorem pd_cmp {op : CmpOp} {r : R2} {o : D2} (ho : OpR X (compareOp op) r) (hr : SimR X.K r o) (ha : PD X a ta) (hb : PD X b tb) (hm : behindInMarks op b = false) : PD X (.Compare a [op] [b] pos) (d2 o ta tb) := by
  obtain ⟨ua, pa, sa⟩ := ha.ex
  obtain ⟨ub, pb, sb⟩ := hb.ex
  exact ⟨_, pe_cmpR ho pa pb hm, sim_op hr sa sb⟩
/-- as a test -/
@[simp] def dTest (t : DE) : DT := fun ρ M P => t ρ M fun x M1 => ∃ k, x = .bl k ∧ P k M1
theorem sim_test {K : PySem.W.Frag} {u : TE} {t : DE} (h : SimE K u t) : SimT K (tTest u) (dTest t) := by
  intro as σ ρ L H M P Q hE A h1 q
  refine h as σ ρ L H M _ _ hE A h1 fun x d L1 H1 M1 s1 A1 h2 r1 => ?_
  obtain ⟨k, rfl, p⟩ := h2
  cases r1
  exact ⟨k, rfl, q k L1 H1 M1 s1 A1 p⟩
theorem pdt_cmp {op : CmpOp} {r : R2} {o : D2} (ho : OpR X (compareOp op) r) (hr : SimR X.K r o) (ha : PD X a ta) (hb : PD X b tb) (hm : behindInMarks op b = false) : PDT X (.Compare a [op] [b] pos) (dTest (d2 o ta tb)) := by
  obtain ⟨ua, pa, sa⟩ := ha.ex
  obtain ⟨ub, pb, sb⟩ := hb.ex
  exact ⟨_, pt_cmpR ho pa pb hm, sim_test (sim_op hr sa sb)⟩
theorem pdt_val {t : DE} (h : PD X e t) (he : ∀ whole, isTrue e X.env whole = (do let v ← whole; standAt e.pos; holding [v] (truthy v)) := by intro _; rfl) : PDT X e (dTest t) := by
  obtain ⟨u, p, s⟩ := h.ex
  exact ⟨_, pt_val p he, sim_test s⟩
/-- a < b < c -/
@[simp] def dChain (o o' : D2) (ta tb tc : DE) : DE := fun ρ M P => ta ρ M fun x M1 => tb ρ M1 fun y M2 => o x y M2 fun z M3 => ∃ k, z = .bl k ∧ if k = true then tc ρ M3 fun w M4 => o' y w M4 P else P (.bl false) M3
end
end Pd
set_option Elab.async false
set_option linter.all false
set_option maxRecDepth 100000
namespace Pd
open PySem PySem.Spec PyProof.Rows L2
section
variable {X : Cx} {a b c e : Expr} {es : List Expr} {ta tb tc t : DE} {tA tB' : DT} {tl : DA} {pos : Pos}
theorem pd_chain {op op' : CmpOp} {r r' : R2} {o o' : D2} (ho : OpR X (compareOp op) r) (hr : SimR X.K r o) (ho' : OpR X (compareOp op') r') (hr' : SimR X.K r' o') (ha : PD X a ta) (hb : PD X b tb) (hc : PD X c tc)
    (hm : lastMarks [op, op'] [b, c] = false := by with_unfolding_all rfl) : PD X (.Compare a [op, op'] [b, c] pos) (dChain o o' ta tb tc) := by
  obtain ⟨ua, pa, sa⟩ := ha.ex
  obtain ⟨ub, pb, sb⟩ := hb.ex
  obtain ⟨uc, pc, sc⟩ := hc.ex
  refine ⟨_, pe_chain ho ho' pa pb pc hm, ?_⟩
  intro as σ ρ L H M P Q hE A h q
  refine sa as σ ρ L H M _ _ hE A h fun x d L1 H1 M1 s1 A1 h1 r1 => ?_
  refine sb as σ ρ L1 H1 M1 _ _ (hE.mono s1.k s1.pre) A1 h1 fun y e L2 H2 M2 s2 A2 h2 r2 => ?_
  refine hr as L2 H2 M2 x y d e _ _ A2 (r1.mono s2.k s2.pre) r2 h2 fun v z L3 H3 M3 s3 A3 h3 r3 => ?_
  obtain ⟨k, rfl, h3⟩ := h3
  cases r3
  have s13 := s1.trans A1 (s2.trans A2 s3)
  refine ⟨k, rfl, ?_⟩
  cases k with
  | false =>
    rw [if_neg Bool.false_ne_true] at h3 ⊢
    exact q _ _ L3 H3 M3 s13 A3 h3 (.bl false)
  | true =>
    rw [if_pos rfl] at h3 ⊢
    refine sc as σ ρ L3 H3 M3 _ _ (hE.mono s13.k s13.pre) A3 h3 fun w' f L4 H4 M4 s4 A4 h4 r4 => ?_
    refine hr' as L4 H4 M4 y w' e f P Q A4 (r2.mono (s3.k.trans s4.k) (s3.pre.trans s4.pre)) r4 h4 fun v z L5 H5 M5 s5 A5 h5 r5 => ?_
    exact q v z L5 H5 M5 (s13.trans A3 (s4.trans A4 s5)) A5 h5 r5
@[simp] def dAnd (t u : DT) : DT := fun ρ M P => t ρ M fun c M1 => if c = true then u ρ M1 P else P false M1
@[simp] def dOr (t u : DT) : DT := fun ρ M P => t ρ M fun c M1 => if c = true then P true M1 else u ρ M1 P
@[simp] def dNot (t : DT) : DT := fun ρ M P => t ρ M fun c M1 => P (!c) M1
theorem pdw_or1 (ha : PDT X a tA) : PDW X (.BoolOp .Or [a] pos) tA := by
  obtain ⟨u, p, s⟩ := ha.ex
  exact ⟨u, pw_or1 p, s⟩
theorem pdw_or {rest : List Expr} (ha : PDT X a tA) (hb : PDW X (.BoolOp .Or (b :: rest) pos) tB') : PDW X (.BoolOp .Or (a :: b :: rest) pos) (dOr tA tB') := by
  obtain ⟨u, p, s⟩ := ha.ex
  obtain ⟨u', p', s'⟩ := hb.ex
  refine ⟨_, pw_or p p', ?_⟩
  intro as σ ρ L H M P Q hE A h q
  refine s as σ ρ L H M _ _ hE A h fun k L1 H1 M1 s1 A1 h1 => ?_
  cases k with
  | true =>
    rw [if_pos rfl] at h1 ⊢
    exact q true L1 H1 M1 s1 A1 h1
  | false =>
    rw [if_neg Bool.false_ne_true] at h1 ⊢
    exact s' as σ ρ L1 H1 M1 _ _ (hE.mono s1.k s1.pre) A1 h1 fun b L2 H2 M2 s2 A2 h2 => q b L2 H2 M2 (s1.trans A1 s2) A2 h2
theorem pdt_w (h : PDW X e tA) : PDT X e tA := by
  obtain ⟨u, p, s⟩ := h.ex
  exact ⟨u, p.pt, s⟩
theorem pdt_not (ha : PDT X a tA) : PDT X (.UnaryOp .Not a pos) (dNot tA) := by
  obtain ⟨u, p, s⟩ := ha.ex
  refine ⟨_, pt_not p, ?_⟩
  intro as σ ρ L H M P Q hE A h q
  exact s as σ ρ L H M _ _ hE A h fun k L1 H1 M1 s1 A1 h1 => q (!k) L1 H1 M1 s1 A1 h1
@[simp] def dAndV (ta tb : DE) : DE := fun ρ M P => ta ρ M fun x M1 => ∃ c, x = .bl c ∧ if c = true then tb ρ M1 P else P (.bl false) M1
@[simp] def dOrV (ta tb : DE) : DE := fun ρ M P => ta ρ M fun x M1 => ∃ c, x = .bl c ∧ if c = true then P (.bl true) M1 else tb ρ M1 P
@[simp] def dNotV (ta : DE) : DE := fun ρ M P => ta ρ M fun x M1 => ∃ c, x = .bl c ∧ P (.bl (!c)) M1
theorem pd_one {op} (h : PD X a t) : PD X (.BoolOp op [a] pos) t := by
  obtain ⟨u, p, s⟩ := h.ex
  exact ⟨u, pe_one p, s⟩
theorem pd_and {rest : List Expr} (ha : PD X a ta) (hb : PD X (.BoolOp .And (b :: rest) pos) tb) : PD X (.BoolOp .And (a :: b :: rest) pos) (dAndV ta tb) := by
  obtain ⟨u, p, s⟩ := ha.ex
  obtain ⟨u', p', s'⟩ := hb.ex
  refine ⟨_, pe_and p p', ?_⟩
  intro as σ ρ L H M P Q hE A h q
  refine s as σ ρ L H M _ _ hE A h fun x d L1 H1 M1 s1 A1 h1 r1 => ?_
  obtain ⟨k, rfl, h1⟩ := h1
  cases r1
  refine ⟨k, rfl, ?_⟩
  cases k with
  | true =>
    rw [if_pos rfl] at h1 ⊢
    exact s' as σ ρ L1 H1 M1 _ _ (hE.mono s1.k s1.pre) A1 h1 fun v z L2 H2 M2 s2 A2 h2 => q v z L2 H2 M2 (s1.trans A1 s2) A2 h2
  | false =>
    rw [if_neg Bool.false_ne_true] at h1 ⊢
    exact q _ _ L1 H1 M1 s1 A1 h1 (.bl false)
theorem pd_not (ha : PD X a ta) : PD X (.UnaryOp .Not a pos) (dNotV ta) := by
  obtain ⟨u, p, s⟩ := ha.ex
  refine ⟨_, pe_not p, ?_⟩
  intro as σ ρ L H M P Q hE A h q
  refine s as σ ρ L H M _ _ hE A h fun x d L1 H1 M1 s1 A1 h1 r1 => ?_
  obtain ⟨k, rfl, h1⟩ := h1
  cases r1
  exact ⟨k, rfl, q _ _ L1 H1 M1 s1 A1 h1 (.bl (!k))⟩
@[simp] def dIf (t : DT) (ta tb : DE) : DE := fun ρ M P => t ρ M fun c M1 => if c = true then ta ρ M1 P else tb ρ M1 P
theorem pd_ifExp (hc : PDT X c tA) (ha : PD X a ta) (hb : PD X b tb) : PD X (.IfExp c a b pos) (dIf tA ta tb) := by
  obtain ⟨u, p, s⟩ := hc.ex
  obtain ⟨u1, p1, s1⟩ := ha.ex
  obtain ⟨u2, p2, s2⟩ := hb.ex
  refine ⟨_, pe_ifExp p p1 p2, ?_⟩
  intro as σ ρ L H M P Q hE A h q
  refine s as σ ρ L H M _ _ hE A h fun k L1 H1 M1 st A1 h1 => ?_
  cases k with
  | true =>
    rw [if_pos rfl] at h1 ⊢
    exact s1 as σ ρ L1 H1 M1 _ _ (hE.mono st.k st.pre) A1 h1 fun v z L2 H2 M2 s2 A2 h2 => q v z L2 H2 M2 (st.trans A1 s2) A2 h2
  | false =>
    rw [if_neg Bool.false_ne_true] at h1 ⊢
    exact s2 as σ ρ L1 H1 M1 _ _ (hE.mono st.k st.pre) A1 h1 fun v z L2 H2 M2 s2 A2 h2 => q v z L2 H2 M2 (st.trans A1 s2) A2 h2
@[simp] def dNil : DA := fun _ M P => P [] M
@[simp] def dCons (ta : DE) (tl : DA) : DA := fun ρ M P => ta ρ M fun x M1 => tl ρ M1 fun xs M2 => P (x :: xs) M2
theorem pda_nil : PDA X [] dNil := ⟨_, pa_nil, fun as σ ρ L H M P Q hE A h q => q [] [] L H M .refl A h .nil⟩
theorem pda_cons (ha : PD X e ta) (hr : PDA X es tl) (hs : starEach (e :: es) X.env = (false, eval e X.env) :: starEach es X.env := by rfl) : PDA X (e :: es) (dCons ta tl) := by
  obtain ⟨u, p, s⟩ := ha.ex
  obtain ⟨u', p', s'⟩ := hr.ex
  refine ⟨_, pa_cons p p' hs, ?_⟩
  intro as σ ρ L H M P Q hE A h q
  refine s as σ ρ L H M _ _ hE A h fun x d L1 H1 M1 s1 A1 h1 r1 => ?_
  exact s' as σ ρ L1 H1 M1 _ _ (hE.mono s1.k s1.pre) A1 h1 fun vs ds L2 H2 M2 s2 A2 h2 r2 => q _ _ L2 H2 M2 (s1.trans A1 s2) A2 h2 (.cons (r1.mono s2.k s2.pre) r2)
@[simp] def dTup (tl : DA) : DE := fun ρ M P => tl ρ M fun ds M1 => ds.length ≤ sizeLine ∧ P (.tup ds) M1
@[simp] def dLst (tl : DA) : DE := fun ρ M P => tl ρ M fun ds M1 => ds.length ≤ sizeLine ∧ P (.lst ds) M1
theorem lowfree {K : PySem.W.Frag} {as : List Addr} {M : Ms} {L H : Hp} {p : Addr} (A : At K as M L H) (hp : H p = none) : L p = none := by
  cases q : L p with
  | none => rfl
  | some u => rw [A.low p u q] at hp; cases hp
theorem pd_tup {x1} (h : PDA X es tl) : PD X (.Tuple es x1 pos) (dTup tl) := by
  obtain ⟨u, p, s⟩ := h.ex
  refine ⟨_, pe_tup p, ?_⟩
  intro as σ ρ L H M P Q hE A h q
  refine s as σ ρ L H M _ _ hE A h fun vs ds L1 H1 M1 s1 A1 h1 r1 => ⟨by rw [r1.length]; exact h1.1, fun p hp => ?_⟩
  exact q _ _ _ _ M1 (s1.trans A1 (Step.know A1 hp)) (A1.know hp) h1.2 (.tup (.inl (.inl upd_same)) (r1.mono (Ex.new (lowfree A1 hp)) (Pre.refl _)))
theorem pd_lst (h : PDA X es tl) : PD X (.List es pos) (dLst tl) := by
  obtain ⟨u, p, s⟩ := h.ex
  refine ⟨_, pe_lst p, ?_⟩
  intro as σ ρ L H M P Q hE A h q
  refine s as σ ρ L H M _ _ hE A h fun vs ds L1 H1 M1 s1 A1 h1 r1 => ⟨by rw [r1.length]; exact h1.1, fun p hp => ?_⟩
  exact q _ _ _ _ M1 (s1.trans A1 (Step.know A1 hp)) (A1.know hp) h1.2 (.lst (.inl (.inl upd_same)) (r1.mono (Ex.new (lowfree A1 hp)) (Pre.refl _)))
/-- what a def promises, over data -/
def spD (n : Nat) (W : DC) : PySem.W.Frag → Sp := fun K vs H Q _ => vs.length = n ∧ ∃ as M L ds P, RpA K as L vs ds ∧ At K as M L H ∧ W ds M P ∧
  ∀ v d L' H' M', Step as L H as L' H' → At K as M' L' H' → P d M' → Rp K as L' v d → Q v H'
@[simp] def dCall (n : Nat) (W : DC) (tl : DA) : DE := fun ρ M P => tl ρ M fun ds M1 => ds.length = n ∧ W ds M1 P
theorem sim_call {n : Nat} {W : DC} {u : TA} {K : PySem.W.Frag} {E : XK} (s : SimA K u tl) : SimE K (tCall (spD n W K) [] E u) (dCall n W tl) := by
  intro as σ ρ L H M P Q hE A h q
  refine s as σ ρ L H M _ _ hE A h fun vs ds L1 H1 M1 s1 A1 h1 r1 => ?_
  rw [List.append_nil]
  exact ⟨by rw [r1.length]; exact h1.1, as, M1, L1, ds, P, r1, A1, h1.2, fun v d L2 H2 M2 s2 A2 h2 r2 => q v d L2 H2 M2 (s1.trans A1 s2) A2 h2 r2⟩
theorem pd_call {k : Nat} {f : Addr} {fd : FuncData} {ps : List Str} {n : Nat} {W : DC} {x : Str} {p : Pos} (F : FnOk X.prog X.w X.K X.mg X.base CX0 k f fd ps (spD n W X.K)) (hr : Room k X.A) (hg : Gl X x) (hm : X.mg x = some (.ref f)) (hk : PySem.W.keepIn X.K (.ref f) = true)
    (hb : Binds X.K fd ps []) (ha : PDA X (e :: es) tl) (hdb : (x == ("__debug__" : Str)) = false := by decide) (he : starEach (e :: es) X.env = (false, eval e X.env) :: starEach es X.env := by rfl) (hpl : (backTo pos (starEach es X.env)).any (·.1) = false := by rfl) :
    PD X (.Call (.Name x p) (e :: es) [] pos) (dCall n W tl) := by
  obtain ⟨u, pa, s⟩ := ha.ex
  exact ⟨_, pe_call F hr hg hm hk hb .nil pass0 pa hdb he hpl, sim_call s⟩
@[simp] def dCB (o : DC) (tl : DA) : DE := fun ρ M P => tl ρ M fun ds M1 => o ds M1 P
theorem sim_cb {r : List V → Hp → VK → Prop} {o : DC} {u : TA} {K : PySem.W.Frag} (hr : SimC K r o) (s : SimA K u tl) : SimE K (tCB r u) (dCB o tl) := by
  intro as σ ρ L H M P Q hE A h q
  refine s as σ ρ L H M _ _ hE A h fun vs ds L1 H1 M1 s1 A1 h1 r1 => ?_
  exact hr as L1 H1 M1 vs ds P Q A1 r1 h1 fun v z L2 H2 M2 s2 A2 h2 r2 => q v z L2 H2 M2 (s1.trans A1 s2) A2 h2 r2
theorem pd_callB {id : String} {r : List V → Hp → VK → Prop} {o : DC} {x : Str} {p : Pos} (hc : CallR X (.builtin id) r) (hs : SimC X.K r o) (hg : Gl X x) (hm : X.mg x = none) (hv : bootBuiltins x = some (.builtin id)) (ha : PDA X (e :: es) tl) (hn : x ≠ "__name__" := by decide)
    (hdb : (x == ("__debug__" : Str)) = false := by decide) (he : starEach (e :: es) X.env = (false, eval e X.env) :: starEach es X.env := by rfl) (hpl : (backTo pos (starEach es X.env)).any (·.1) = false := by rfl) : PD X (.Call (.Name x p) (e :: es) [] pos) (dCB o tl) := by
  obtain ⟨u, pa, s⟩ := ha.ex
  exact ⟨_, pe_callB hc hg hm hv pa hn hdb he hpl, sim_cb hs s⟩
theorem pd_callTy {T : String} {r : List V → Hp → VK → Prop} {o : DC} {x : Str} {p : Pos} (hc : CallR X (.type T) r) (hs : SimC X.K r o) (hg : Gl X x) (hm : X.mg x = none) (hv : bootBuiltins x = some (.type T)) (ha : PDA X (e :: es) tl) (hn : x ≠ "__name__" := by decide)
    (hdb : (x == ("__debug__" : Str)) = false := by decide) (he : starEach (e :: es) X.env = (false, eval e X.env) :: starEach es X.env := by rfl) (hpl : (backTo pos (starEach es X.env)).any (·.1) = false := by rfl) : PD X (.Call (.Name x p) (e :: es) [] pos) (dCB o tl) := by
  obtain ⟨u, pa, s⟩ := ha.ex
  exact ⟨_, pe_callTy hc hg hm hv pa hn hdb he hpl, sim_cb hs s⟩
theorem pd_ix {r : R2} {o : D2} (hi : IxR X r) (hr : SimR X.K r o) (ha : PD X a ta) (hb : PD X b tb) (hs : PlainIx b := by exact fun _ _ => rfl) : PD X (.Subscript a b pos) (d2 o ta tb) := by
  obtain ⟨ua, pa, sa⟩ := ha.ex
  obtain ⟨ub, pb, sb⟩ := hb.ex
  exact ⟨_, pe_ix hi pa pb hs, sim_op hr sa sb⟩
structure DEnds where
  nx : Rho → Ms → Prop
  rt : D → Ms → Prop
  bk : Rho → Ms → Prop := fun _ _ => False
  ct : Rho → Ms → Prop := fun _ _ => False
abbrev DS := DEnds → Rho → Ms → Prop
def EndN (K : PySem.W.Frag) (as : List Addr) (L H : Hp) (d : Rho → Ms → Prop) (v : L2.St → Hp → Prop) : Prop := ∀ σ' ρ' L' H' M', Step as L H as L' H' → At K as M' L' H' → En K as L' σ' ρ' → d ρ' M' → v σ' H'
structure Comp (K : PySem.W.Frag) (as : List Addr) (L H : Hp) (De : DEnds) (D : Ends) : Prop where
  nx : EndN K as L H De.nx D.nx
  rt : ∀ v d L' H' M', Step as L H as L' H' → At K as M' L' H' → De.rt d M' → Rp K as L' v d → D.rt v H'
  bk : EndN K as L H De.bk D.bk
  ct : EndN K as L H De.ct D.ct
theorem EndN.step {K : PySem.W.Frag} {as : List Addr} {L H L1 H1 : Hp} {M1 : Ms} {d : Rho → Ms → Prop} {v : L2.St → Hp → Prop} (s : Step as L H as L1 H1) (A1 : At K as M1 L1 H1) (h : EndN K as L H d v) : EndN K as L1 H1 d v :=
  fun σ' ρ' L' H' M' s' A' e' q => h σ' ρ' L' H' M' (s.trans A1 s') A' e' q
theorem Comp.step {K : PySem.W.Frag} {as : List Addr} {L H L1 H1 : Hp} {M1 : Ms} {De : DEnds} {D : Ends} (s : Step as L H as L1 H1) (A1 : At K as M1 L1 H1) (h : Comp K as L H De D) : Comp K as L1 H1 De D :=
  ⟨h.nx.step s A1, fun v d L' H' M' s' A' q r => h.rt v d L' H' M' (s.trans A1 s') A' q r, h.bk.step s A1, h.ct.step s A1⟩
def SimS (K : PySem.W.Frag) (ts : TS) (t : DS) : Prop := ∀ as σ ρ L H M De D, En K as L σ ρ → At K as M L H → t De ρ M → Comp K as L H De D → ts D σ H
structure PDS (X : Cx) (st : Stmt) (t : DS) : Prop where
  ex : ∃ ts, PS X st ts ∧ SimS X.K ts t
structure PDSs (X : Cx) (st : List Stmt) (t : DS) : Prop where
  ex : ∃ ts, PSs X st ts ∧ SimS X.K ts t
variable {st : Stmt} {sts : List Stmt} {s1 s2 : DS}
@[simp] def sNext : DS := fun D ρ M => D.nx ρ M
@[simp] def sSeq (t u : DS) : DS := fun D ρ M => t { D with nx := fun ρ' M' => u D ρ' M' } ρ M
theorem pdss_nil : PDSs X [] sNext := ⟨_, pss_nil, fun as σ ρ L H M De D hE A h c => c.nx σ ρ L H M .refl A hE h⟩
theorem pdss_cons (h1 : PDS X st s1) (h2 : PDSs X sts s2) : PDSs X (st :: sts) (sSeq s1 s2) := by
  obtain ⟨u, p, s⟩ := h1.ex
  obtain ⟨u', p', s'⟩ := h2.ex
  refine ⟨_, pss_cons p p', ?_⟩
  intro as σ ρ L H M De D hE A h c
  refine s as σ ρ L H M _ _ hE A h ⟨fun σ1 ρ1 L1 H1 M1 st1 A1 e1 q1 => ?_, c.rt, c.bk, c.ct⟩
  exact s' as σ1 ρ1 L1 H1 M1 De D e1 A1 q1 (c.step st1 A1)
theorem pdss_one (h1 : PDS X st s1) : PDSs X [st] s1 := by
  obtain ⟨u, p, s⟩ := h1.ex
  exact ⟨_, pss_one p, s⟩
@[simp] def sDrop (t : DE) : DS := fun D ρ M => t ρ M fun _ M1 => D.nx ρ M1
theorem pds_expr (he : PD X e t) (hs : swapsWith e none pos.line X.env = pure false := by rfl) : PDS X (.Expr e pos) (sDrop t) := by
  obtain ⟨u, p, s⟩ := he.ex
  exact ⟨_, ps_expr p hs, fun as σ ρ L H M De D hE A h c => s as σ ρ L H M _ _ hE A h fun v d L1 H1 M1 st A1 q _ => c.nx σ ρ L1 H1 M1 st A1 (hE.mono st.k st.pre) q⟩
@[simp] def sRet (t : DE) : DS := fun D ρ M => t ρ M D.rt
theorem pds_ret (he : PD X e t) : PDS X (.Return (some e) pos) (sRet t) := by
  obtain ⟨u, p, s⟩ := he.ex
  exact ⟨_, ps_ret p, fun as σ ρ L H M De D hE A h c => s as σ ρ L H M _ _ hE A h fun v d L1 H1 M1 st A1 q r => c.rt v d L1 H1 M1 st A1 q r⟩
@[simp] def sIf (c : DT) (t u : DS) : DS := fun D ρ M => c ρ M fun b M1 => if b = true then t D ρ M1 else u D ρ M1
theorem pds_if {a b : List Stmt} (hc : PDT X c tA) (ha : PDSs X a s1) (hb : PDSs X b s2) : PDS X (.If c a b pos) (sIf tA s1 s2) := by
  obtain ⟨u, p, s⟩ := hc.ex
  obtain ⟨u1, p1, z1⟩ := ha.ex
  obtain ⟨u2, p2, z2⟩ := hb.ex
  refine ⟨_, ps_if p p1 p2, ?_⟩
  intro as σ ρ L H M De D hE A h c
  refine s as σ ρ L H M _ _ hE A h fun k L1 H1 M1 st A1 h1 => ?_
  cases k with
  | true =>
    rw [if_pos rfl] at h1 ⊢
    exact z1 as σ ρ L1 H1 M1 De D (hE.mono st.k st.pre) A1 h1 (c.step st A1)
  | false =>
    rw [if_neg Bool.false_ne_true] at h1 ⊢
    exact z2 as σ ρ L1 H1 M1 De D (hE.mono st.k st.pre) A1 h1 (c.step st A1)
@[simp] def sNever : DS := fun _ _ _ => False
theorem pds_never : PDS X st sNever := ⟨_, ps_never, fun _ _ _ _ _ _ _ _ _ _ h _ => h.elim⟩
abbrev DG := D → Rho → (Rho → Prop) → Prop
abbrev DGs := List D → Rho → (Rho → Prop) → Prop
/-- ts: the slots that are stored -/
def SimG (K : PySem.W.Frag) (g : TG) (t : DG) (ts : List Nat) : Prop := ∀ as L H v d σ ρ M P Q, En K as L σ ρ → At K as M L H → Rp K as L v d → t d ρ P →
  (∀ σ' ρ', En K as L σ' ρ' → P ρ' → (∀ vs, (∀ i ∈ ts, i ∈ vs) → wipe σ' vs = wipe σ vs) → Q σ' H) → g v σ H Q
def SimGs (K : PySem.W.Frag) (g : TGs) (t : DGs) (ts : List Nat) : Prop := ∀ as L H vs ds σ ρ M P Q, En K as L σ ρ → At K as M L H → RpA K as L vs ds → t ds ρ P →
  (∀ σ' ρ', En K as L σ' ρ' → P ρ' → (∀ vs, (∀ i ∈ ts, i ∈ vs) → wipe σ' vs = wipe σ vs) → Q σ' H) → g vs σ H Q
structure PDG (X : Cx) (tg : Expr) (t : DG) (ts : List Nat) : Prop where
  ex : ∃ g, PG X tg g ∧ SimG X.K g t ts
structure PDGs (X : Cx) (tg : List Expr) (t : DGs) (ts : List Nat) : Prop where
  ex : ∃ g, PGs X tg g ∧ SimGs X.K g t ts
theorem wipe_set {σ : L2.St} {i : Nat} {x : Option V} : ∀ {vs : List Nat}, i ∈ vs → wipe (σ.set i x) vs = wipe σ vs
  | [], h => by simp at h
  | v :: vs, h => by
    unfold wipe
    by_cases hi : i ∈ vs
    · rw [wipe_set hi]
    · have e : i = v := by
        rcases List.mem_cons.mp h with z | z
        · exact z
        · exact absurd z hi
      subst e
      have : ∀ {us : List Nat}, i ∉ us → wipe (σ.set i x) us = (wipe σ us).set i x := by
        intro us
        induction us with
        | nil => intro _; rfl
        | cons u us ih =>
          intro hu
          unfold wipe
          have h1 : i ≠ u := fun z => hu (by rw [z]; exact List.mem_cons_self)
          rw [ih fun z => hu (List.mem_cons_of_mem _ z), List.set_comm _ _ h1]
      rw [this hi, List.set_set]
@[simp] def gN (i : Nat) : DG := fun d ρ P => P (ρ.set i (some d))
theorem sim_gN {K : PySem.W.Frag} (i : Nat) : SimG K (gName i) (gN i) [i] := fun as L H v d σ ρ M P Q hE A r p q => q _ _ (hE.set i r) p fun vs h => wipe_set (h i List.mem_cons_self)
theorem pdg_name (i : Nat) {x : Str} (hN : X.N.Nodup) (hi : X.N[i]? = some x := by rfl) (hx : Loc X.env.scope x := by first | exact Or.inl rfl | exact Or.inr rfl) (hf : X.fn x = true ∨ X.env.scope.names.lookup x = some .local := by first | exact .inl rfl | exact .inr rfl | assumption) : PDG X (.Name x pos) (gN i) [i] :=
  ⟨_, pg_name hN hi hx hf, sim_gN i⟩
@[simp] def gNi : DGs := fun ds ρ P => ds = [] ∧ P ρ
@[simp] def gCo (t : DG) (u : DGs) : DGs := fun ds ρ P => ∃ d r, ds = d :: r ∧ t d ρ fun ρ' => u r ρ' P
theorem pdgs_nil : PDGs X [] gNi [] := ⟨_, pgs_nil, fun as L H vs ds σ ρ M P Q hE A r ⟨e, p⟩ q => by
  subst e
  cases r
  exact ⟨rfl, q σ ρ hE p fun _ _ => rfl⟩⟩
theorem pdgs_cons {t : DG} {u : DGs} {us vs : List Nat} (h1 : PDG X e t us) (h2 : PDGs X es u vs) (hs : (assignEach (e :: es) X.env).map (·.2) = assign e X.env :: (assignEach es X.env).map (·.2) := by rfl) : PDGs X (e :: es) (gCo t u) (us ++ vs) := by
  obtain ⟨g, p, s⟩ := h1.ex
  obtain ⟨g', p', s'⟩ := h2.ex
  refine ⟨_, pgs_cons p p' hs, ?_⟩
  intro as L H ws ds σ ρ M P Q hE A r h q
  obtain ⟨d, rr, rfl, h⟩ := h
  cases r with
  | cons r1 r2 =>
    refine ⟨_, _, rfl, s as L H _ _ σ ρ M _ _ hE A r1 h fun σ1 ρ1 e1 h1 w1 => ?_⟩
    exact s' as L H _ _ σ1 ρ1 M _ _ e1 A r2 h1 fun σ2 ρ2 e2 h2 w2 => q σ2 ρ2 e2 h2 fun vs hv => (w2 vs fun i hi => hv i (List.mem_append_right _ hi)).trans (w1 vs fun i hi => hv i (List.mem_append_left _ hi))
@[simp] def gTu (n : Nat) (t : DGs) : DG := fun d ρ P => ∃ ds, d = .tup ds ∧ ds.length = n ∧ t ds ρ P
theorem pdg_tup {k : Nat} {t : DGs} {n : Nat} {us : List Nat} (hc : X.calm = true) (h : PDGs X es t us)
    (hn : (assignEach es X.env).length = n := by rfl) (hst : (assignEach es X.env).findIdx? (·.1) = none := by rfl) : PDG X (.Tuple es k pos) (gTu n t) us := by
  obtain ⟨g, p, s⟩ := h.ex
  refine ⟨_, pg_tup hc p hn hst, ?_⟩
  intro as L H v d σ ρ M P Q hE A r h q
  obtain ⟨ds, rfl, hl, h⟩ := h
  cases r with
  | tup hs ra => exact ⟨_, _, rfl, ex_t A.low hs, by rw [ra.length]; exact hl, s as L H _ _ σ ρ M _ _ hE A ra h q⟩
@[simp] def sAsg (t : DE) (g : DG) : DS := fun D ρ M => t ρ M fun d M1 => g d ρ fun ρ' => D.nx ρ' M1
theorem sim_asg {K : PySem.W.Frag} {u : TE} {g : TG} {t : DE} {dg : DG} {us : List Nat} (s : SimE K u t) (sg : SimG K g dg us) : SimS K (tAsg u g) (sAsg t dg) := by
  intro as σ ρ L H M De D hE A h c
  refine s as σ ρ L H M _ _ hE A h fun v d L1 H1 M1 s1 A1 h1 r1 => ?_
  exact sg as L1 H1 v d σ ρ M1 _ _ (hE.mono s1.k s1.pre) A1 r1 h1 fun σ' ρ' e' p' _ => c.nx σ' ρ' L1 H1 M1 s1 A1 e' p'
theorem pds_set (i : Nat) {x : Str} {p' : Pos} (hN : X.N.Nodup) (he : PD X e t) (hi : X.N[i]? = some x := by rfl) (hx : Loc X.env.scope x := by first | exact Or.inl rfl | exact Or.inr rfl) (hs : swapsWith e (some (.Name x p')) pos.line X.env = pure false := by rfl)
    (hf : X.fn x = true ∨ X.env.scope.names.lookup x = some .local := by first | exact .inl rfl | exact .inr rfl | assumption) : PDS X (.Assign [.Name x p'] e pos) (sAsg t (gN i)) := by
  obtain ⟨u, p, s⟩ := he.ex
  exact ⟨_, ps_set hN hi hx p hs hf, sim_asg s (sim_gN i)⟩
theorem pds_asg {tg : Expr} {g : DG} {us : List Nat} (he : PD X e t) (hg : PDG X tg g us) (hs : swapsWithSole [tg] e pos.line X.env = pure false := by rfl) (hw : swappedStores [tg] e X.env = pure none := by rfl)
    (h1 : (assignEach [tg] X.env).map (·.2) = [assign tg X.env] := by rfl) : PDS X (.Assign [tg] e pos) (sAsg t g) := by
  obtain ⟨u, p, s⟩ := he.ex
  obtain ⟨g', pg, sg⟩ := hg.ex
  exact ⟨_, ps_asg p pg hs hw h1, sim_asg s sg⟩
end
/-- J gives the items ds, one after the other, wherever L is known -/
def Walks (K : PySem.W.Frag) (J : It) (as : List Addr) (L0 : Hp) (ds : List D) : Prop := ∀ L H M, Ex L0 L → At K as M L H →
  (∀ i, i < ds.length → J.go i H ∧ ∀ x H', J.yld i H x H' → ∃ d L', ds[i]? = some d ∧ Step as L H as L' H' ∧ At K as M L' H' ∧ Rp K as L' x d) ∧ J.stop ds.length H
def SimI (K : PySem.W.Frag) (wi : TI) (t : DA) : Prop := ∀ as σ ρ L H M P R, En K as L σ ρ → At K as M L H → t ρ M P →
  (∀ J ds L' H' M', Step as L H as L' H' → At K as M' L' H' → P ds M' → Walks K J as L' ds → R J H') → wi σ H R
structure PDI (X : Cx) (tg iter : Expr) (t : DA) : Prop where
  ex : ∃ wi, PI X tg iter wi ∧ SimI X.K wi t
section
variable {X : Cx} {tg iter e : Expr} {es : List Expr} {t : DE} {tl : DA} {pos : Pos} {K : PySem.W.Frag}
/-- over a list; over a tuple -/
@[simp] def iLst (t : DE) : DA := fun ρ M P => t ρ M fun d M1 => ∃ ds, d = .lst ds ∧ P ds M1
@[simp] def iTpl (t : DE) : DA := fun ρ M P => t ρ M fun d M1 => ∃ ds, d = .tup ds ∧ P ds M1
theorem walks_list {as : List Addr} {L0 : Hp} {a : Addr} {xs : List V} {ds : List D} (hs : SqL K L0 a xs) (r : RpA K as L0 xs ds) : Walks K (Itl K a) as L0 ds := by
  intro L H M e A
  have h1 : SqL K H a xs := ex_l (e.trans A.low) hs
  refine ⟨fun i hi => ⟨?_, fun x H' y => ?_⟩, xs, h1, by rw [r.length]; exact Nat.le_refl _⟩
  · have hx : i < xs.length := by rw [r.length]; exact hi
    exact ⟨xs, xs[i], h1, List.getElem?_eq_getElem hx⟩
  · obtain ⟨rfl, hy⟩ := y
    obtain ⟨d, hd, rd⟩ := r.getV (hy xs h1)
    exact ⟨d, L, hd, .refl, A, rd.mono e (Pre.refl _)⟩
theorem walks_tup {as : List Addr} {L0 : Hp} {a : Addr} {xs : List V} {ds : List D} (hs : SqT K L0 a xs) (r : RpA K as L0 xs ds) : Walks K (Itt K a) as L0 ds := by
  intro L H M e A
  have h1 : SqT K H a xs := ex_t (e.trans A.low) hs
  refine ⟨fun i hi => ⟨?_, fun x H' y => ?_⟩, xs, h1, by rw [r.length]; exact Nat.le_refl _⟩
  · have hx : i < xs.length := by rw [r.length]; exact hi
    exact ⟨xs, xs[i], h1, List.getElem?_eq_getElem hx⟩
  · obtain ⟨rfl, hy⟩ := y
    obtain ⟨d, hd, rd⟩ := r.getV (hy xs h1)
    exact ⟨d, L, hd, .refl, A, rd.mono e (Pre.refl _)⟩
theorem pdi_list (h : PD X e t) : PDI X tg e (iLst t) := by
  obtain ⟨u, p, s⟩ := h.ex
  refine ⟨_, pi_list p, ?_⟩
  intro as σ ρ L H M P R hE A h q
  refine s as σ ρ L H M _ _ hE A h fun v d L1 H1 M1 s1 A1 h1 r1 => ?_
  obtain ⟨ds, rfl, h1⟩ := h1
  cases r1 with
  | lst hs ra => exact ⟨_, rfl, ⟨_, ex_l A1.low hs⟩, q _ ds L1 H1 M1 s1 A1 h1 (walks_list hs ra)⟩
theorem pdi_tup (h : PD X e t) : PDI X tg e (iTpl t) := by
  obtain ⟨u, p, s⟩ := h.ex
  refine ⟨_, pi_tup p, ?_⟩
  intro as σ ρ L H M P R hE A h q
  refine s as σ ρ L H M _ _ hE A h fun v d L1 H1 M1 s1 A1 h1 r1 => ?_
  obtain ⟨ds, rfl, h1⟩ := h1
  cases r1 with
  | tup hs ra => exact ⟨_, rfl, ⟨_, ex_t A1.low hs⟩, q _ ds L1 H1 M1 s1 A1 h1 (walks_tup hs ra)⟩
/-- lo, lo + 1, .. -/
def rng (lo : Int) (n : Nat) : List D := (List.range n).map fun i => .int (lo + (i : Nat))
theorem rng_len (lo : Int) (n : Nat) : (rng lo n).length = n := by unfold rng; rw [List.length_map, List.length_range]
theorem walks_range {as : List Addr} {L0 : Hp} (lo : Int) (n : Nat) : Walks K (Itr lo n) as L0 (rng lo n) := by
  intro L H M e A
  rw [rng_len]
  refine ⟨fun i hi => ⟨hi, fun x H' y => ?_⟩, Nat.le_refl _⟩
  obtain ⟨rfl, rfl⟩ := y
  refine ⟨.int (lo + i), L, ?_, .refl, A, .int _⟩
  unfold rng
  rw [List.getElem?_map, List.getElem?_range hi]
  rfl
@[simp] def iR1 (tl : DA) : DA := fun ρ M P => tl ρ M fun ds M1 => ∃ j : Int, ds = [.int j] ∧ -(2 ^ 62) ≤ j ∧ j < 2 ^ 62 ∧ P (rng 0 j.toNat) M1
theorem pdi_range1 {p : Pos} (hg : Gl X "range") (hm : X.mg "range" = none) (ha : PDA X [e] tl) (hs : starEach [e] X.env = [(false, eval e X.env)] := by rfl) : PDI X tg (.Call (.Name "range" p) [e] [] pos) (iR1 tl) := by
  obtain ⟨u, pa, s⟩ := ha.ex
  refine ⟨_, pi_range1 hg hm pa (hs := hs), ?_⟩
  intro as σ ρ L H M P R hE A h q
  refine s as σ ρ L H M _ _ hE A h fun vs ds L1 H1 M1 s1 A1 h1 r1 => ?_
  obtain ⟨j, rfl, h2, h3, h1⟩ := h1
  cases r1 with
  | cons r2 r3 =>
    cases r2
    cases r3
    exact ⟨j, rfl, h2, h3, q _ _ L1 H1 M1 s1 A1 h1 (walks_range 0 _)⟩
@[simp] def iR2 (tl : DA) : DA := fun ρ M P => tl ρ M fun ds M1 => ∃ i j : Int, ds = [.int i, .int j] ∧ (-(2 ^ 62) ≤ i ∧ i < 2 ^ 62 ∧ -(2 ^ 62) ≤ j ∧ j < 2 ^ 62) ∧ P (rng i (j - i).toNat) M1
theorem pdi_range2 {e2 : Expr} {p : Pos} (hg : Gl X "range") (hm : X.mg "range" = none) (ha : PDA X [e, e2] tl) (hs : starEach [e, e2] X.env = [(false, eval e X.env), (false, eval e2 X.env)] := by rfl) (hs2 : starEach [e2] X.env = [(false, eval e2 X.env)] := by rfl) : PDI X tg (.Call (.Name "range" p) [e, e2] [] pos) (iR2 tl) := by
  obtain ⟨u, pa, s⟩ := ha.ex
  refine ⟨_, pi_range2 hg hm pa (hs := hs) (hs2 := hs2), ?_⟩
  intro as σ ρ L H M P R hE A h q
  refine s as σ ρ L H M _ _ hE A h fun vs ds L1 H1 M1 s1 A1 h1 r1 => ?_
  obtain ⟨i, j, rfl, h2, h1⟩ := h1
  cases r1 with
  | cons r2 r3 =>
    cases r2
    cases r3 with
    | cons r4 r5 =>
      cases r4
      cases r5
      exact ⟨i, j, rfl, h2, q _ _ L1 H1 M1 s1 A1 h1 (walks_range i _)⟩
def forRun (g : DG) (body : DS) (De : DEnds) : List D → Rho → Ms → Prop
  | [], ρ, M => De.nx ρ M
  | d :: r, ρ, M => g d ρ fun ρ' => body { De with nx := fun ρ2 M2 => forRun g body De r ρ2 M2, ct := fun ρ2 M2 => forRun g body De r ρ2 M2, bk := De.nx } ρ' M
@[simp] def sFor (it : DA) (g : DG) (body : DS) : DS := fun D ρ M => it ρ M fun ds M1 => forRun g body D ds ρ M1
theorem pds_for {body : List Stmt} {it : DA} {g : DG} {us : List Nat} {tb : DS} (hp : PassesOwn (model X.prog X.w) X.A X.env X.xe) (hc : X.calm = true) (hi : PDI X tg iter it) (hg : PDG X tg g us) (hb : PDSs X body tb)
    (hs : ∀ x, foldedSetIterable iter X.env x = pure x := by intro _; rfl) : PDS X (.For tg iter body [] pos) (sFor it g tb) := by
  obtain ⟨wi, p, s⟩ := hi.ex
  obtain ⟨g', pg, sg⟩ := hg.ex
  obtain ⟨ub, pb, sb⟩ := hb.ex
  refine ⟨_, ps_for hp hc p pg pb hs, ?_⟩
  intro as σ ρ L H M De D hE A h c
  refine s as σ ρ L H M _ _ hE A h fun J ds L1 H1 M1 s1 A1 h1 w1 => ?_
  refine ⟨fun i m σ H => m = ds.length - i ∧ i ≤ ds.length ∧ ∃ ρ L M, Step as L1 H1 as L H ∧ At X.K as M L H ∧ En X.K as L σ ρ ∧ forRun g tb De (ds.drop i) ρ M, ⟨ds.length, by simp, Nat.zero_le _, ρ, L1, M1, .refl, A1, hE.mono s1.k s1.pre, h1⟩, ?_⟩
  rintro i m σ H ⟨rfl, hi, ρ, L, M, st, A, hE, hf⟩
  obtain ⟨wg, ws⟩ := w1 L H M st.k A
  by_cases hlt : i < ds.length
  · obtain ⟨go, wy⟩ := wg i hlt
    rw [List.drop_eq_getElem_cons hlt] at hf
    refine .inr ⟨go, fun σ' H' => ∃ ρ L M, Step as L1 H1 as L H' ∧ At X.K as M L H' ∧ En X.K as L σ' ρ ∧ forRun g tb De (ds.drop (i + 1)) ρ M, fun σ' H' q => ⟨ds.length - (i + 1), by omega, rfl, hlt, q⟩, fun x H' y => ?_⟩
    obtain ⟨d, L', hd, s2, A2, r2⟩ := wy x H' y
    rw [List.getElem?_eq_getElem hlt] at hd
    cases hd
    refine sg as L' H' x _ σ ρ M _ _ (hE.mono s2.k s2.pre) A2 r2 hf fun σ2 ρ2 e2 p2 _ => ?_
    have s12 := st.trans A s2
    have c2 := (c.step s1 A1).step s12 A2
    refine sb as σ2 ρ2 L' H' M _ _ e2 A2 p2 ⟨fun σ3 ρ3 L3 H3 M3 s3 A3 e3 q3 => ⟨ρ3, L3, M3, s12.trans A2 s3, A3, e3, q3⟩, c2.rt, c2.nx, fun σ3 ρ3 L3 H3 M3 s3 A3 e3 q3 => ⟨ρ3, L3, M3, s12.trans A2 s3, A3, e3, q3⟩⟩
  · have e : i = ds.length := by omega
    subst e
    rw [List.drop_length] at hf
    exact .inl ⟨ws, (c.step s1 A1).nx σ ρ L H M st A hE hf⟩
end
abbrev wipeS := @L2.wipe
theorem wipe_wipe (σ : L2.St) (us : List Nat) : L2.wipe (L2.wipe σ us) us = L2.wipe σ us := by
  have : ∀ (τ : L2.St) (ts : List Nat), (∀ i ∈ ts, i ∈ us) → L2.wipe (L2.wipe τ ts) us = L2.wipe τ us := by
    intro τ ts
    induction ts with
    | nil => intro _; rfl
    | cons t ts ih =>
      intro ht
      show L2.wipe ((L2.wipe τ ts).set t none) us = _
      rw [wipe_set (ht t List.mem_cons_self), ih fun i hi => ht i (List.mem_cons_of_mem _ hi)]
  exact this σ us fun _ h => h
def wipeR (ρ : Rho) : List Nat → Rho
  | [] => ρ
  | v :: vs => (wipeR ρ vs).set v none
theorem En.unset {K : PySem.W.Frag} {as : List Addr} {L : Hp} {σ : L2.St} {ρ : Rho} (i : Nat) (h : En K as L σ ρ) : En K as L (σ.set i none) (ρ.set i none) := by
  refine ⟨by rw [List.length_set, List.length_set]; exact h.len, fun j e q => ?_⟩
  rw [List.getElem?_set] at q ⊢
  by_cases hj : i = j
  · subst hj
    rw [if_pos rfl] at q
    split at q <;> cases q
  · rw [if_neg hj] at q ⊢
    exact h.at_ j e q
theorem En.wipe {K : PySem.W.Frag} {as : List Addr} {L : Hp} {σ : L2.St} {ρ : Rho} (h : En K as L σ ρ) : ∀ vs : List Nat, En K as L (wipeS σ vs) (wipeR ρ vs)
  | [] => h
  | v :: vs => (En.wipe h vs).unset v
structure PDTs (X : Cx) (es : List Expr) (t : DT) : Prop where
  ex : ∃ te, PTs X es te ∧ SimT X.K te t
@[simp] def dYes : DT := fun _ M P => P true M
def lcRun (g : DG) (tt : DT) (te : DE) (ρ : Rho) (P : D → Ms → Prop) : List D → List D → Ms → Prop
  | [], acc, M => P (.lst acc) M
  | d :: r, acc, M => g d ρ fun ρ' => tt ρ' M fun b M1 => if b = true then te ρ' M1 fun y M2 => acc.length < sizeLine ∧ lcRun g tt te ρ P r (acc ++ [y]) M2 else lcRun g tt te ρ P r acc M1
@[simp] def dLc (it : DA) (g : DG) (tt : DT) (te : DE) (vs : List Nat) : DE := fun ρ M P => it ρ M fun ds M1 => lcRun g tt te (wipeR ρ vs) P ds [] M1
theorem sim_lc {K : PySem.W.Frag} {wi : TI} {it : DA} {g' : TG} {g : DG} {us : List Nat} {ut : TT} {tt : DT} {ue : TE} {te : DE} {vs : List Nat} (hus : ∀ i ∈ us, i ∈ vs) (s : SimI K wi it) (sg : SimG K g' g us) (st : SimT K ut tt) (se : SimE K ue te) :
    SimE K (tLc wi g' ut ue vs) (dLc it g tt te vs) := by
  intro as σ ρ L H M P Q hE A h q
  refine s as σ ρ L H M _ _ hE A h fun J ds L1 H1 M1 s1 A1 h1 w1 => ?_
  intro D hD
  -- D stays hidden while it grows
  have base : ∀ {L' H' : Hp} {M' : Ms} {acc : List V}, At K as M' L' H' → H' D = some (.lst acc) → L' D = none → D ∉ as → ∀ acc', At K as M' L' (upd H' D (.lst acc')) := by
    intro L' H' M' acc A' hd hl hn acc'
    refine ⟨fun a o h => ?_, A'.len, A'.nd, fun k a m e1 e2 => ?_, A'.nt⟩
    · have e : a ≠ D := fun z => by rw [z, hl] at h; cases h
      rw [upd_ne e]; exact A'.low a o h
    · obtain ⟨h3, o, h4, h5⟩ := A'.mo k a m e1 e2
      have e : a ≠ D := fun z => hn (by rw [← z]; exact List.mem_of_getElem? e1)
      exact ⟨h3, o, by rw [upd_ne e]; exact h4, h5.1, h5.2.keep (KeepC.over hd rfl)⟩
  have dn : D ∉ as := fun z => (A1.held z).2 hD
  have ld : L1 D = none := lowfree A1 hD
  refine ⟨fun i m H' => m = ds.length - i ∧ i ≤ ds.length ∧ ∃ L' M' xs acc, Step as L1 H1 as L' H' ∧ At K as M' L' H' ∧ H' D = some (.lst xs) ∧ L' D = none ∧ RpA K as L' xs acc ∧ lcRun g tt te (wipeR ρ vs) P (ds.drop i) acc M',
    ⟨ds.length, by simp, Nat.zero_le _, L1, M1, [], [], ⟨fun a o _ h => ?_, Ex.refl _, fun _ h _ => h, Pre.refl _, fun _ h => .inl h⟩, ?_, upd_same, ld, .nil, h1⟩, ?_⟩
  · rw [upd_ne (ne_of_none h hD)]; exact h
  · refine ⟨fun a o h => ?_, A1.len, A1.nd, fun k a m e1 e2 => ?_, A1.nt⟩
    · rw [upd_ne (ne_of_none (A1.low a o h) hD)]; exact A1.low a o h
    · obtain ⟨h3, o, h4, h5⟩ := A1.mo k a m e1 e2
      exact ⟨h3, o, by rw [upd_ne (ne_of_none h4 hD)]; exact h4, h5.1, h5.2.keep (KeepC.new hD)⟩
  rintro i m H' ⟨rfl, hi, L', M', xs, acc, s', A', hd', ld', ra, hf⟩
  obtain ⟨wg, ws⟩ := w1 L' H' M' s'.k A'
  have upD : ∀ {L2 H2 : Hp} {M2 : Ms}, Step as L1 H1 as L2 H2 → At K as M2 L2 H2 → ∀ acc', Step as L1 H1 as L2 (upd H2 D (.lst acc')) := by
    intro L2 H2 M2 s2 A2 acc'
    exact ⟨fun a o ha h => by rw [upd_ne (ne_of_none h hD)]; exact s2.up a o ha h, s2.k, s2.hid, s2.pre, s2.new⟩
  by_cases hlt : i < ds.length
  · obtain ⟨go, wy⟩ := wg i hlt
    rw [List.drop_eq_getElem_cons hlt] at hf
    refine .inr ⟨go, fun H2 => ∃ L' M' xs acc, Step as L1 H1 as L' H2 ∧ At K as M' L' H2 ∧ H2 D = some (.lst xs) ∧ L' D = none ∧ RpA K as L' xs acc ∧ lcRun g tt te (wipeR ρ vs) P (ds.drop (i + 1)) acc M', fun H2 q => ⟨ds.length - (i + 1), by omega, rfl, hlt, q⟩, fun x H2 y => ?_⟩
    obtain ⟨d, L2, hd, s2, A2, r2⟩ := wy x H2 y
    rw [List.getElem?_eq_getElem hlt] at hd
    cases hd
    have hE2 : En K as L2 (wipeS σ vs) (wipeR ρ vs) := ((hE.mono (s1.k.trans (s'.k.trans s2.k)) (Pre.refl _)).wipe vs)
    have hd2 : H2 D = some (.lst xs) := s2.up D _ dn hd'
    have ld2 : L2 D = none := s2.hid D ld' (by rw [hd']; simp)
    refine sg as L2 H2 x _ _ _ M' _ _ hE2 A2 r2 hf fun σ3 ρ3 e3 p3 wp => ⟨?_, ?_⟩
    · have z := wp vs hus
      rw [z, wipe_wipe]
    · refine st as σ3 ρ3 L2 H2 M' _ _ e3 A2 p3 fun b L3 H3 M3 s3 A3 h3 => ?_
      have s13 := (s'.trans A' s2).trans A2 s3
      have hd3 : H3 D = some (.lst xs) := s3.up D _ dn hd2
      have ld3 : L3 D = none := s3.hid D ld2 (by rw [hd2]; simp)
      cases b with
      | false =>
        rw [if_neg Bool.false_ne_true] at h3 ⊢
        exact ⟨L3, M3, xs, acc, s13, A3, hd3, ld3, ra.mono (s2.k.trans s3.k) (Pre.refl _), h3⟩
      | true =>
        rw [if_pos rfl] at h3 ⊢
        refine se as σ3 ρ3 L3 H3 M3 _ _ (e3.mono s3.k s3.pre) A3 h3 fun v z L4 H4 M4 s4 A4 h4 r4 => ?_
        have hd4 : H4 D = some (.lst xs) := s4.up D _ dn hd3
        have ld4 : L4 D = none := s4.hid D ld3 (by rw [hd3]; simp)
        have s14 := s13.trans A3 s4
        have ra4 := ra.mono (s2.k.trans (s3.k.trans s4.k)) (Pre.refl as)
        refine ⟨xs, hd4, by rw [ra4.length]; exact h4.1, L4, M4, xs ++ [v], acc ++ [z], upD s14 A4 _, base A4 hd4 ld4 dn _, upd_same, ld4, ra4.append (.one r4), h4.2⟩
  · have e : i = ds.length := by omega
    subst e
    rw [List.drop_length] at hf
    -- the list is known for good
    refine .inl ⟨ws, q _ _ (upd L' D (.lst xs)) H' M' (s1.trans A1 ⟨s'.up, s'.k.trans (Ex.new ld'), fun a h h' => ?_, Pre.refl _, fun _ h => .inl h⟩) ⟨fun a o h => ?_, A'.len, A'.nd, fun k a m e1 e2 => ?_, A'.nt.new (fun ps z => by cases z)⟩ hf (.lst (.inl (.inl upd_same)) (ra.mono (Ex.new ld') (Pre.refl _)))⟩
    · have e : a ≠ D := fun z => h' (by rw [z]; exact hD)
      rw [upd_ne e]; exact s'.hid a h h'
    · by_cases e : a = D
      · subst e; rw [upd_same] at h; rw [hd']; exact h
      · rw [upd_ne e] at h; exact A'.low a o h
    · obtain ⟨h3, o, h4, h5⟩ := A'.mo k a m e1 e2
      have e : a ≠ D := fun z => dn (by rw [← z]; exact List.mem_of_getElem? e1)
      exact ⟨by rw [upd_ne e]; exact h3, o, h4, h5.1.mono (Ex.new ld') (Pre.refl _), h5.2⟩
end Pd
set_option Elab.async false
set_option linter.all false
set_option maxRecDepth 100000
namespace Pd
open PySem PySem.Spec PyProof.Rows L2
def upE (K : PySem.W.Frag) (t : DE) : TE := fun σ H Q => ∃ as ρ L M P, En K as L σ ρ ∧ At K as M L H ∧ t ρ M P ∧ ∀ v d L' H' M', Step as L H as L' H' → At K as M' L' H' → P d M' → Rp K as L' v d → Q v H'
def upT (K : PySem.W.Frag) (t : DT) : TT := fun σ H Q => ∃ as ρ L M P, En K as L σ ρ ∧ At K as M L H ∧ t ρ M P ∧ ∀ b L' H' M', Step as L H as L' H' → At K as M' L' H' → P b M' → Q b H'
def upG (K : PySem.W.Frag) (t : DG) (ts : List Nat) : TG := fun v σ H Q => ∃ as L d ρ M P, En K as L σ ρ ∧ At K as M L H ∧ Rp K as L v d ∧ t d ρ P ∧ ∀ σ' ρ', En K as L σ' ρ' → P ρ' → (∀ vs, (∀ i ∈ ts, i ∈ vs) → L2.wipe σ' vs = L2.wipe σ vs) → Q σ' H
theorem sim_upE {K : PySem.W.Frag} (t : DE) : SimE K (upE K t) t := fun as σ ρ L H M P Q hE A h q => ⟨as, ρ, L, M, P, hE, A, h, q⟩
theorem sim_upT {K : PySem.W.Frag} (t : DT) : SimT K (upT K t) t := fun as σ ρ L H M P Q hE A h q => ⟨as, ρ, L, M, P, hE, A, h, q⟩
theorem sim_upG {K : PySem.W.Frag} (t : DG) (ts : List Nat) : SimG K (upG K t ts) t ts := fun as L H v d σ ρ M P Q hE A r h q => ⟨as, L, d, ρ, M, P, hE, A, r, h, q⟩
theorem PD.up {X : Cx} {e : Expr} {t : DE} (h : PD X e t) : PE X e (upE X.K t) := by
  obtain ⟨u, p, s⟩ := h.ex
  exact ⟨fun pins sh σ H Q I ⟨as, ρ, L, M, P, hE, A, h, q⟩ => p.run pins sh σ H Q I (s as σ ρ L H M P Q hE A h q)⟩
theorem PDTs.up {X : Cx} {es : List Expr} {t : DT} (h : PDTs X es t) : PTs X es (upT X.K t) := by
  obtain ⟨u, p, s⟩ := h.ex
  exact ⟨fun pins sh σ H Q I ⟨as, ρ, L, M, P, hE, A, h, q⟩ => p.run pins sh σ H Q I (s as σ ρ L H M P Q hE A h q)⟩
theorem PDG.up {X : Cx} {tg : Expr} {t : DG} {ts : List Nat} (h : PDG X tg t ts) : PG X tg (upG X.K t ts) := by
  obtain ⟨g, p, s⟩ := h.ex
  exact ⟨fun pins sh σ H v u Q I r ⟨as, L, d, ρ, M, P, hE, A, rp, h, q⟩ => p.run pins sh σ H v u Q I r (s as L H v d σ ρ M P Q hE A rp h q)⟩
theorem pdts_nil {X : Cx} : PDTs X [] dYes := ⟨_, pts_nil, fun as σ ρ L H M P Q hE A h q => q true L H M .refl A h⟩
theorem pdts_one {X : Cx} {c : Expr} {t : DT} (h : PDT X c t) : PDTs X [c] t := by
  obtain ⟨u, p, s⟩ := h.ex
  exact ⟨_, pts_one p, s⟩
section
variable {X : Cx}
theorem pd_lc {elt tg iter : Expr} {ifs : List Expr} {scope : Scope} (own : List (Str × Nat)) {pos : Pos} {it : DA} {g : DG} {us : List Nat} {tt : DT} {te : DE} (hc : X.calm = true) (hN : X.N.Nodup) (hi : PDI X tg iter it) (ok : BlkOk X.N X.env.scope scope own)
    (hg : ∀ (s : Shared) (H : Hp) (C : Addr) (cl : List (Str × Addr)) (fp : List Addr), PDG (X.blk s H scope (compEnvC scope cl C X.env) fp) tg g us) (ht : ∀ (s : Shared) (H : Hp) (C : Addr) (cl : List (Str × Addr)) (fp : List Addr), PDTs (X.blk s H scope (compEnvC scope cl C X.env) fp) ifs tt)
    (he : ∀ (s : Shared) (H : Hp) (C : Addr) (cl : List (Str × Addr)) (fp : List Addr), PD (X.blk s H scope (compEnvC scope cl C X.env) fp) elt te) (hu : ∀ i ∈ us, i ∈ own.map (·.2) := by decide) (hs : ∀ x, foldedSetIterable iter X.env x = pure x := by intro _; rfl) :
    PD X (.ListComp elt [⟨tg, iter, ifs, 0⟩] scope pos) (dLc it g tt te (own.map (·.2))) := by
  obtain ⟨wi, p, s⟩ := hi.ex
  exact ⟨_, pe_lc hc hN p ok (fun a b c d e => (hg a b c d e).up) (fun a b c d e => (ht a b c d e).up) (fun a b c d e => (he a b c d e).up) hs, sim_lc hu s (sim_upG g us) (sim_upT tt) (sim_upE te)⟩
/-- y = [..], y a local -/
theorem pds_setLc (i : Nat) {y : Str} {py : Pos} {elt tg iter : Expr} {ifs : List Expr} {scope : Scope} (own : List (Str × Nat)) {pos spos : Pos} {it : DA} {g : DG} {us : List Nat} {tt : DT} {te : DE} (hc : X.calm = true) (hN : X.N.Nodup) (hy : X.N[i]? = some y) (hyl : X.env.scope.names.lookup y = some .local)
    (hsw : swapsWith (.ListComp elt [⟨tg, iter, ifs, 0⟩] scope pos) (some (.Name y py)) spos.line X.env = pure true) (hi : PDI X tg iter it) (ok : BlkOk X.N X.env.scope scope own)
    (hg : ∀ (s : Shared) (H : Hp) (C : Addr) (cl : List (Str × Addr)) (fp : List Addr), PDG (X.blk s H scope (compEnvC scope cl C X.env) fp) tg g us) (ht : ∀ (s : Shared) (H : Hp) (C : Addr) (cl : List (Str × Addr)) (fp : List Addr), PDTs (X.blk s H scope (compEnvC scope cl C X.env) fp) ifs tt)
    (he : ∀ (s : Shared) (H : Hp) (C : Addr) (cl : List (Str × Addr)) (fp : List Addr), PD (X.blk s H scope (compEnvC scope cl C X.env) fp) elt te) (hu : ∀ i ∈ us, i ∈ own.map (·.2) := by decide) (hs : ∀ x, foldedSetIterable iter X.env x = pure x := by intro _; rfl) :
    PDS X (.Assign [.Name y py] (.ListComp elt [⟨tg, iter, ifs, 0⟩] scope pos) spos) (sAsg (dLc it g tt te (own.map (·.2))) (gN i)) := by
  obtain ⟨wi, p, s⟩ := hi.ex
  exact ⟨_, ps_setLc (i := i) hc hN hy hyl hsw p ok (fun a b c d e => (hg a b c d e).up) (fun a b c d e => (ht a b c d e).up) (fun a b c d e => (he a b c d e).up) hs, sim_asg (sim_lc hu s (sim_upG g us) (sim_upT tt) (sim_upE te)) (sim_gN i)⟩
end
def startD (N : List Str) (ds : List D) : Rho := ds.map some ++ List.replicate (N.length - ds.length) none
theorem en_start {K : PySem.W.Frag} {as : List Addr} {L : Hp} {N : List Str} {vs : List V} {ds : List D} (r : RpA K as L vs ds) : En K as L (L2.start N vs) (startD N ds) := by
  refine ⟨?_, fun i d h => ?_⟩
  · unfold L2.start startD
    rw [List.length_append, List.length_append, List.length_map, List.length_map, List.length_replicate, List.length_replicate, r.length]
  · unfold startD at h
    unfold L2.start
    by_cases hi : i < ds.length
    · rw [List.getElem?_append_left (by simpa using hi), List.getElem?_map] at h
      cases e : ds[i]? with
      | none => rw [e] at h; cases h
      | some d' =>
        rw [e] at h
        cases h
        obtain ⟨v, h1, h2⟩ := r.get e
        refine ⟨v, ?_, h2⟩
        rw [List.getElem?_append_left (by rw [List.length_map, r.length]; exact hi), List.getElem?_map, h1]
        rfl
    · rw [List.getElem?_append_right (by simpa using hi), List.getElem?_replicate] at h
      split at h <;> cases h
section
variable {P : Program} {w : World} {K : PySem.W.Frag} {mg : Str → Option Value} {base : Heap}
theorem pd_fn {x qual : Str} {st : Stmt} {f : Addr} {fd : FuncData} {N ps : List Str} {k : Nat} {W : DC} (F : Fun K x qual st f fd) (S : FnScope N ps (defScope st))
    (hbody : ∀ (cdv : Value) (A : Around) (outer : List Env) (s : Shared) (H : Hp) (E : XK), Room k (A.deeper (envOfC qual (defScope st) s.heap.objs.size f cdv)) →
      ∃ t, PDSs (cxOf CX0 P w K mg base N qual (defScope st) f cdv A outer s H E).nox (defBody st) t ∧ ∀ ds M Q, ds.length = ps.length → W ds M Q → t { nx := fun _ M' => Q .non M', rt := Q } (startD N ds) M) :
    FnOk P w K mg base CX0 (k + 1) f fd ps (spD ps.length W K) := by
  refine F.ok S (fun vs H Q E h => h.1) (fun cdv A outer s H vs Q E hr h => ?_)
  obtain ⟨hl, as, M, L, ds, P', r, A0, hw, q⟩ := h
  obtain ⟨t, ht, hb⟩ := hbody cdv A outer s H E hr
  obtain ⟨ts, pt, st'⟩ := ht.ex
  refine ⟨ts, pt, st' as (L2.start N vs) (startD N ds) L H M _ _ (en_start r) A0 (hb ds M P' (by rw [← r.length]; exact hl) hw) ⟨?_, ?_, ?_, ?_⟩⟩
  · exact fun σ' ρ' L' H' M' s1 A1 _ p => q .non .non L' H' M' s1 A1 p .non
  · exact fun v d L' H' M' s1 A1 p r => q v d L' H' M' s1 A1 p r
  · exact fun _ _ _ _ _ _ _ _ p => p.elim
  · exact fun _ _ _ _ _ _ _ _ p => p.elim
end
section
variable {K : PySem.W.Frag}
@[simp] def oI0 (g : Int → Int → D) : D2 := fun x y M P => ∃ i j, x = .int i ∧ y = .int j ∧ P (g i j) M
@[simp] def oI (C : Int → Int → Prop) (g : Int → Int → D) : D2 := fun x y M P => ∃ i j, x = .int i ∧ y = .int j ∧ C i j ∧ P (g i j) M
@[simp] def oU (g : Int → D) : D1 := fun x M P => ∃ i, x = .int i ∧ P (g i) M
theorem sr_I0i {g : Int → Int → Int} : SimR K (rI0 fun i j => .int (g i j)) (oI0 fun i j => .int (g i j)) := by
  intro as L H M x y d e P Q A r1 r2 ⟨i, j, h1, h2, p⟩ q
  subst h1; subst h2
  cases r1; cases r2
  exact ⟨i, j, rfl, rfl, q _ _ L H M .refl A p (.int _)⟩
theorem sr_I0b {g : Int → Int → Bool} : SimR K (rI0 fun i j => .bl (g i j)) (oI0 fun i j => .bl (g i j)) := by
  intro as L H M x y d e P Q A r1 r2 ⟨i, j, h1, h2, p⟩ q
  subst h1; subst h2
  cases r1; cases r2
  exact ⟨i, j, rfl, rfl, q _ _ L H M .refl A p (.bl _)⟩
theorem sr_I {C : Int → Int → Prop} {g : Int → Int → Int} : SimR K (rI C fun i j => .int (g i j)) (oI C fun i j => .int (g i j)) := by
  intro as L H M x y d e P Q A r1 r2 ⟨i, j, h1, h2, c, p⟩ q
  subst h1; subst h2
  cases r1; cases r2
  exact ⟨i, j, rfl, rfl, c, q _ _ L H M .refl A p (.int _)⟩
theorem su_U {g : Int → Int} : SimU K (rU fun i => .int (g i)) (oU fun i => .int (g i)) := by
  intro as L H M x d P Q A r1 ⟨i, h1, p⟩ q
  subst h1
  cases r1
  exact ⟨i, rfl, q _ _ L H M .refl A p (.int _)⟩
mutual
def plain : D → Bool
  | .non => true | .bl _ => true | .int _ => true | .str _ => true
  | .lst ds => plainA ds | .tup ds => plainA ds | .tfz _ => true
  | _ => false
def plainA : List D → Bool
  | [] => true
  | d :: ds => plain d && plainA ds
end
def keyP : Key → PyData
  | .inl i => .int i
  | .inr x => .str x
mutual
def toP : D → PyData
  | .non => .none | .bl b => .bool b | .int i => .int i | .str x => .str x
  | .lst ds => .list (toPA ds) | .tup ds => .tuple (toPA ds)
  | .dic ks ds => .dict ((ks.map keyP).zip (toPA ds))
  | .tfz ns => .tuple (ns.map PyData.int)
  | _ => .none
def toPA : List D → List PyData
  | [] => []
  | d :: ds => toP d :: toPA ds
end
theorem dp_ints {K : PySem.W.Frag} {H : Hp} : ∀ ns : List Int, DpAll K H (ns.map V.int) (ns.map PyData.int)
  | [] => .nil
  | n :: ns => .cons (.int n) (dp_ints ns)
mutual
theorem Rp.dp' {as : List Addr} {L H : Hp} (e : Ex L H) : ∀ (d : D) (v : V), Rp K as L v d → plain d = true → Dp K H v (toP d)
  | .non, _, h, _ => by cases h; exact .non
  | .bl b, _, h, _ => by cases h; exact .bl b
  | .int i, _, h, _ => by cases h; exact .int i
  | .str x, _, h, _ => by cases h; exact .str x
  | .lst ds, _, h, p => by
    cases h with
    | lst h1 r => exact .lst (ex_l e h1) (RpA.dp' e ds _ r p)
  | .tup ds, _, h, p => by
    cases h with
    | tup h1 r => exact .tup (ex_t e h1) (RpA.dp' e ds _ r p)
  | .ins _ _, _, _, p => by cases p
  | .mu _, _, _, p => by cases p
  | .ob _, _, _, p => by cases p
  | .ty _, _, _, p => by cases p
  | .exc _ _, _, _, p => by cases p
  | .dic _ _, _, _, p => by cases p
  | .dit _ _, _, _, p => by cases p
  | .tfz ns, _, h, _ => by
    cases h with
    | tfz h => obtain ⟨o, h, _⟩ := h; exact .tup (.inl (.inr ⟨o, e _ _ h⟩)) (dp_ints ns)
theorem RpA.dp' {as : List Addr} {L H : Hp} (e : Ex L H) : ∀ (ds : List D) (vs : List V), RpA K as L vs ds → plainA ds = true → DpAll K H vs (toPA ds)
  | [], _, h, _ => by cases h; exact .nil
  | d :: ds, _, h, p => by
    cases h with
    | cons r t =>
      have p' := Bool.and_eq_true_iff.mp p
      exact .cons (Rp.dp' e d _ r p'.1) (RpA.dp' e ds _ t p'.2)
end
theorem Rp.dp {as : List Addr} {L H : Hp} (e : Ex L H) {v : V} {d : D} (r : Rp K as L v d) (p : plain d = true) : Dp K H v (toP d) := Rp.dp' e d v r p
def eqD (d e : D) : Bool := PyData.eqv (toP d) (toP e)
def okD (d : D) : Bool := plain d && SeqAt.shaped (toP d)
@[simp] def oEq : D2 := fun x y M P => okD x = true ∧ okD y = true ∧ P (.bl (eqD x y)) M
@[simp] def oNe : D2 := fun x y M P => okD x = true ∧ okD y = true ∧ P (.bl (!eqD x y)) M
theorem sr_eq : SimR K (rEqD K) oEq := by
  intro as L H M x y d e P Q A r1 r2 ⟨h1, h2, p⟩ q
  have g1 := Bool.and_eq_true_iff.mp h1
  have g2 := Bool.and_eq_true_iff.mp h2
  exact ⟨_, _, Rp.dp A.low r1 g1.1, Rp.dp A.low r2 g2.1, g1.2, g2.2, q _ _ L H M .refl A p (.bl _)⟩
theorem sr_ne : SimR K (rNeD K) oNe := by
  intro as L H M x y d e P Q A r1 r2 ⟨h1, h2, p⟩ q
  have g1 := Bool.and_eq_true_iff.mp h1
  have g2 := Bool.and_eq_true_iff.mp h2
  exact ⟨_, _, Rp.dp A.low r1 g1.1, Rp.dp A.low r2 g2.1, g1.2, g2.2, q _ _ L H M .refl A p (.bl _)⟩
@[simp] def oIxL : D2 := fun x y M P => ∃ ds i v, x = .lst ds ∧ y = .int i ∧ (0 ≤ i ∧ ds[i.toNat]? = some v) ∧ P v M
@[simp] def oIxT : D2 := fun x y M P => ∃ ds i v, x = .tup ds ∧ y = .int i ∧ (0 ≤ i ∧ ds[i.toNat]? = some v) ∧ P v M
theorem at_in {as : List Addr} {L : Hp} {xs : List V} {ds : List D} {i : Int} {d : D} (r : RpA K as L xs ds) (h : 0 ≤ i ∧ ds[i.toNat]? = some d) : ∃ v, atI xs i = some v ∧ Rp K as L v d := by
  obtain ⟨v, h1, h2⟩ := r.get h.2
  exact ⟨v, at_of (by omega) h1, h2⟩
theorem sr_ixL : SimR K (rIxL K) oIxL := by
  intro as L H M x y d e P Q A r1 r2 ⟨ds, i, v, h1, h2, h3, p⟩ q
  subst h1; subst h2
  cases r2
  cases r1 with
  | lst hs ra =>
    obtain ⟨z, h4, h5⟩ := at_in ra h3
    exact ⟨_, _, i, z, rfl, rfl, ex_l A.low hs, h4, q _ _ L H M .refl A p h5⟩
theorem sr_ixT : SimR K (rIxT K) oIxT := by
  intro as L H M x y d e P Q A r1 r2 ⟨ds, i, v, h1, h2, h3, p⟩ q
  subst h1; subst h2
  cases r2
  cases r1 with
  | tup hs ra =>
    obtain ⟨z, h4, h5⟩ := at_in ra h3
    exact ⟨_, _, i, z, rfl, rfl, ex_t A.low hs, h4, q _ _ L H M .refl A p h5⟩
@[simp] def oLen : DC := fun xs M P => ∃ ds, (xs = [.lst ds] ∨ xs = [.tup ds]) ∧ P (.int ds.length) M
theorem sc_len : SimC K (fun xs H Q => ∃ p ys, xs = [.ref p] ∧ (SqL K H p ys ∨ SqT K H p ys) ∧ Q (.int ys.length) H) oLen := by
  intro as L H M xs ds P Q A r ⟨es, h, p⟩ q
  rcases h with h | h
  · subst h
    cases r with
    | cons r1 r2 =>
      cases r2
      cases r1 with
      | lst hs ra =>
        refine ⟨_, _, rfl, .inl (ex_l A.low hs), ?_⟩
        rw [ra.length]
        exact q _ _ L H M .refl A p (.int _)
  · subst h
    cases r with
    | cons r1 r2 =>
      cases r2
      cases r1 with
      | tup hs ra =>
        refine ⟨_, _, rfl, .inr (ex_t A.low hs), ?_⟩
        rw [ra.length]
        exact q _ _ L H M .refl A p (.int _)
theorem RpA.ints {as : List Addr} {L : Hp} : ∀ {xs : List V} {ns : List Int}, RpA K as L xs (ns.map D.int) → xs = ns.map V.int
  | _, [], .nil => rfl
  | [], _ :: _, h => by cases h
  | x :: xs, n :: ns, .cons r t => by
    cases r
    rw [RpA.ints t]
    rfl
theorem RpA.bls {as : List Addr} {L : Hp} : ∀ {xs : List V} {bs : List Bool}, RpA K as L xs (bs.map D.bl) → xs = bs.map V.bl
  | _, [], .nil => rfl
  | [], _ :: _, h => by cases h
  | x :: xs, n :: ns, .cons r t => by
    cases r
    rw [RpA.bls t]
    rfl
@[simp] def oSum : DC := fun xs M P => ∃ ns : List Int, xs = [.lst (ns.map D.int)] ∧ P (.int ns.sum) M
theorem sc_sum : SimC K (rSum K) oSum := by
  intro as L H M xs ds P Q A r ⟨ns, h, p⟩ q
  subst h
  cases r with
  | cons r1 r2 =>
    cases r2
    cases r1 with
    | lst hs ra =>
      have e := ra.ints
      subst e
      exact ⟨_, ns, rfl, ex_l A.low hs, q _ _ L H M .refl A p (.int _)⟩
@[simp] def oAll : DC := fun xs M P => ∃ bs : List Bool, xs = [.lst (bs.map D.bl)] ∧ P (.bl (bs.all id)) M
@[simp] def oAny : DC := fun xs M P => ∃ bs : List Bool, xs = [.lst (bs.map D.bl)] ∧ P (.bl (bs.any id)) M
theorem sc_all : SimC K (rAll K) oAll := by
  intro as L H M xs ds P Q A r ⟨ns, h, p⟩ q
  subst h
  cases r with
  | cons r1 r2 =>
    cases r2
    cases r1 with
    | lst hs ra =>
      have e := ra.bls
      subst e
      exact ⟨_, ns, rfl, ex_l A.low hs, q _ _ L H M .refl A p (.bl _)⟩
@[simp] def oInt : DC := fun xs M P => (∃ i, xs = [.int i] ∧ P (.int i) M) ∨ ∃ b, xs = [.bl b] ∧ P (.int (if b then 1 else 0)) M
theorem sc_int : SimC K (fun xs H Q => (∃ i, xs = [.int i] ∧ Q (.int i) H) ∨ ∃ k, xs = [.bl k] ∧ Q (.int (if k then 1 else 0)) H) oInt := by
  intro as L H M xs ds P Q A r h q
  rcases h with ⟨i, h, p⟩ | ⟨b, h, p⟩
  · subst h
    cases r with
    | cons r1 r2 => cases r2; cases r1; exact .inl ⟨i, rfl, q _ _ L H M .refl A p (.int _)⟩
  · subst h
    cases r with
    | cons r1 r2 => cases r2; cases r1; exact .inr ⟨b, rfl, q _ _ L H M .refl A p (.int _)⟩
@[simp] def oMax : DC := fun xs M P => ∃ i j, xs = [.int i, .int j] ∧ P (.int (if j > i then j else i)) M
@[simp] def oMin : DC := fun xs M P => ∃ i j, xs = [.int i, .int j] ∧ P (.int (if j < i then j else i)) M
theorem sc_max : SimC K (fun xs H Q => ∃ i j, xs = [.int i, .int j] ∧ Q (.int (if j > i then j else i)) H) oMax := by
  intro as L H M xs ds P Q A r ⟨i, j, h, p⟩ q
  subst h
  cases r with
  | cons r1 r2 => cases r1; cases r2 with | cons r3 r4 => cases r3; cases r4; exact ⟨i, j, rfl, q _ _ L H M .refl A p (.int _)⟩
theorem sc_min : SimC K (fun xs H Q => ∃ i j, xs = [.int i, .int j] ∧ Q (.int (if j < i then j else i)) H) oMin := by
  intro as L H M xs ds P Q A r ⟨i, j, h, p⟩ q
  subst h
  cases r with
  | cons r1 r2 => cases r1; cases r2 with | cons r3 r4 => cases r3; cases r4; exact ⟨i, j, rfl, q _ _ L H M .refl A p (.int _)⟩
end
end Pd
set_option Elab.async false
set_option linter.all false
set_option maxRecDepth 100000
namespace Pd
open PySem PySem.Spec PyProof.Rows L2
theorem At.lst {K : PySem.W.Frag} {as : List Addr} {M : Ms} {L H : Hp} {k : Nat} {a : Addr} {ds : List D} (A : At K as M L H) (h : as[k]? = some a) (hm : M[k]? = some (.lst ds)) : ∃ xs, H a = some (.lst xs) ∧ RpA K as L xs ds := by
  obtain ⟨_, o, h1, h2, _⟩ := A.mo k a _ h hm
  cases h2 with
  | lst r => exact ⟨_, h1, r⟩
theorem At.ins {K : PySem.W.Frag} {as : List Addr} {M : Ms} {L H : Hp} {k : Nat} {a C : Addr} {gs : List (Str × D)} (A : At K as M L H) (h : as[k]? = some a) (hm : M[k]? = some (.ins C gs)) : ∃ dx fs, H a = some (.ins C dx fs) ∧ RpF K as L fs gs := by
  obtain ⟨_, o, h1, h2, _⟩ := A.mo k a _ h hm
  cases h2 with
  | ins r => exact ⟨_, _, h1, r⟩
/-- the k-th object is changed -/
theorem At.put {K : PySem.W.Frag} {as : List Addr} {M : Ms} {L H : Hp} {k : Nat} {a : Addr} {o : HO} {m : MO} (A : At K as M L H) (h : as[k]? = some a) (r : Ro K as L o m) (tb : TabOk (upd H a o) a o m := by trivial) : At K as (M.set k m) L (upd H a o) := by
  have hk : k < as.length := (List.getElem?_eq_some_iff.mp h).1
  have hl := A.held (List.mem_of_getElem? h)
  have kc : KeepC H (upd H a o) := by
    have hk2 : k < M.length := by rw [← A.len]; exact hk
    obtain ⟨_, u, h2, h3, _⟩ := A.mo k a _ h (List.getElem?_eq_getElem hk2)
    exact KeepC.over h2 h3.noExt
  refine ⟨fun b u e => ?_, by rw [List.length_set]; exact A.len, A.nd, fun j b m' e1 e2 => ?_, A.nt⟩
  · have : b ≠ a := fun z => by rw [z, hl.1] at e; cases e
    rw [upd_ne this]; exact A.low b u e
  · by_cases hj : j = k
    · subst hj
      rw [h] at e1
      cases e1
      rw [List.getElem?_set, if_pos rfl] at e2
      split at e2
      · cases e2; exact ⟨hl.1, o, upd_same, r, tb⟩
      · cases e2
    · rw [List.getElem?_set, if_neg (fun z => hj z.symm)] at e2
      obtain ⟨h3, o', h4, h5⟩ := A.mo j b m' e1 e2
      have hb : b ≠ a := fun z => by
        subst z
        have := (List.getElem?_inj (List.getElem?_eq_some_iff.mp e1).1 A.nd).mp (e1.trans h.symm)
        exact hj this
      exact ⟨h3, o', by rw [upd_ne hb]; exact h4, h5.1, h5.2.keep kc⟩
theorem Step.put {as : List Addr} {L H : Hp} {a : Addr} {o : HO} (h : a ∈ as) : Step as L H as L (upd H a o) :=
  ⟨fun b u hb e => by rw [upd_ne (fun z => hb (by rw [z]; exact h))]; exact e, Ex.refl _, fun _ e _ => e, Pre.refl _, fun _ e => .inl e⟩
section
variable {K : PySem.W.Frag}
@[simp] def oIxM : D2 := fun x y M P => ∃ k ds i v, x = .mu k ∧ y = .int i ∧ M[k]? = some (.lst ds) ∧ (0 ≤ i ∧ ds[i.toNat]? = some v) ∧ P v M
theorem sr_ixM : SimR K (rIxL K) oIxM := by
  intro as L H M x y d e P Q A r1 r2 ⟨k, ds, i, v, h1, h2, hm, h3, p⟩ q
  subst h1; subst h2
  cases r2
  cases r1 with
  | mu hs =>
    obtain ⟨xs, h4, ra⟩ := A.lst hs hm
    obtain ⟨z, h5, h6⟩ := at_in ra h3
    exact ⟨_, xs, i, z, rfl, rfl, .inl (.inl h4), h5, q _ _ L H M .refl A p h6⟩
end
section
variable {X : Cx} {a b c e o i value : Expr} {es : List Expr} {t ta tb tc to ti tv : DE} {tl : DA} {pos pos' : Pos}
/-- o[i] = e, o a changeable list -/
@[simp] def sSetI (to ti te : DE) : DS := fun De ρ M => te ρ M fun v M1 => to ρ M1 fun x M2 => ti ρ M2 fun y M3 => ∃ k ds i, x = .mu k ∧ y = .int i ∧ M3[k]? = some (.lst ds) ∧ (0 ≤ i ∧ i.toNat < ds.length) ∧ De.nx ρ (M3.set k (.lst (ds.set i.toNat v)))
theorem RpA.set {K : PySem.W.Frag} {as : List Addr} {L : Hp} {v : V} {d : D} (r : Rp K as L v d) : ∀ {xs : List V} {ds : List D} (i : Nat), RpA K as L xs ds → RpA K as L (xs.set i v) (ds.set i d)
  | _, _, _, .nil => .nil
  | _, _, 0, .cons _ t => .cons r t
  | _, _, i + 1, .cons q t => .cons q (RpA.set r i t)
theorem pds_setItem (he : PD X value tv) (ho : PD X o to) (hi : PD X i ti) (ha : ∀ v, assign (.Subscript o i pos') X.env v = (do
      let ov ← holding [v] (eval o X.env)
      let iv ← holding [v, ov] (eval i X.env)
      standAt pos'
      holding [v, ov, iv] (setItem ov iv v)
      release [v, ov, iv] []) := by intro _; rfl) (hs : swapsWithSole [.Subscript o i pos'] value pos.line X.env = pure false := by rfl) (hw : swappedStores [.Subscript o i pos'] value X.env = pure none := by rfl)
    (h1 : (assignEach [.Subscript o i pos'] X.env).map (·.2) = [assign (.Subscript o i pos') X.env] := by rfl) : PDS X (.Assign [.Subscript o i pos'] value pos) (sSetI to ti tv) := by
  obtain ⟨u, p, s⟩ := he.ex
  obtain ⟨u1, p1, s1⟩ := ho.ex
  obtain ⟨u2, p2, s2⟩ := hi.ex
  refine ⟨_, ps_asg p (pg_sub p1 p2 set_list ha) hs hw h1, ?_⟩
  intro as σ ρ L H M De D hE A h c
  refine s as σ ρ L H M _ _ hE A h fun v d L1 H1 M1 t1 A1 h1 r1 => ?_
  refine s1 as σ ρ L1 H1 M1 _ _ (hE.mono t1.k t1.pre) A1 h1 fun x d2 L2 H2 M2 t2 A2 h2 r2 => ?_
  refine s2 as σ ρ L2 H2 M2 _ _ (hE.mono (t1.k.trans t2.k) (Pre.refl _)) A2 h2 fun y d3 L3 H3 M3 t3 A3 h3 r3 => ?_
  obtain ⟨k, ds, i, rfl, rfl, hm, hi, p⟩ := h3
  cases r3
  cases r2 with
  | mu hk =>
    obtain ⟨xs, g1, g2⟩ := A3.lst hk hm
    refine ⟨_, xs, i, i.toNat, rfl, rfl, g1, ?_, ?_⟩
    · unfold ixN
      rw [if_pos hi.1, if_pos (by rw [g2.length]; omega)]
    · have r1' := r1.mono (t2.k.trans t3.k) (Pre.refl as)
      refine c.nx σ ρ L3 _ _ ((t1.trans A1 (t2.trans A2 t3)).trans A3 (Step.put (List.mem_of_getElem? hk))) (A3.put hk (.lst (g2.set r1' _))) (hE.mono (t1.k.trans (t2.k.trans t3.k)) (Pre.refl _)) p
theorem pd_glob {x : Str} {v : V} {u : Value} {d : D} (hg : Gl X x) (hm : X.mg x = some u) (r : RelV v u) (hd : ∀ as L, Rp X.K as L v d) (hdb : (x == ("__debug__" : Str)) = false := by decide) : PD X (.Name x pos) (dC d) :=
  ⟨_, pe_glob hg hm r hdb, fun as σ ρ L H M P Q hE A p q => q _ _ L H M .refl A p (hd as L)⟩
theorem pd_bltn {x : Str} {v : V} {u : Value} {d : D} (hg : Gl X x) (hm : X.mg x = none) (hv : bootBuiltins x = some u) (r : RelV v u) (hd : ∀ as L, Rp X.K as L v d) (hn : x ≠ "__name__" := by decide) (hdb : (x == ("__debug__" : Str)) = false := by decide) : PD X (.Name x pos) (dC d) :=
  ⟨_, pe_bltn hg hm hv r hn hdb, fun as σ ρ L H M P Q hE A p q => q _ _ L H M .refl A p (hd as L)⟩
/-- what isinstance asks of an own class -/
structure ClsI (K : PySem.W.Frag) (C : Addr) : Prop where
  cl : Cls K C
  ha : PySem.W.findIn K (.ref C) "__class__" = some (some (.builtin "object.__class__"))
  hn : PySem.W.specialIn K (.builtin "object.__class__") "__get__" = some (some (.builtin "getset_descriptor.__get__"))
  htk : PySem.W.takesIn K (.builtin "object.__class__") = some true
  hm : PySem.W.mroIn K C (.type "object") = some true
/-- the type of data -/
inductive DTy (K : PySem.W.Frag) : D → Value → Prop
  | non : DTy K .non (.type "NoneType")
  | bl (b : Bool) : DTy K (.bl b) (.type "bool")
  | int (i : Int) : DTy K (.int i) (.type "int")
  | str (x : Str) : DTy K (.str x) (.type "str")
  | lst (ds : List D) : DTy K (.lst ds) (.type "list")
  | tup (ds : List D) : DTy K (.tup ds) (.type "tuple")
  | ins {C : Addr} {fs : List (Str × D)} (h : ClsI K C) : DTy K (.ins C fs) (.ref C)
  | dic (ks : List Key) (ds : List D) : DTy K (.dic ks ds) (.type "dict")
  | tfz (ns : List Int) : DTy K (.tfz ns) (.type "tuple")
inductive DCl : D → V → Value → Prop
  | ty (n : String) : DCl (.ty n) (.ty n) (.type n)
  | ob (C : Addr) : DCl (.ob C) (.ref C) (.ref C)
theorem DTy.ty {K : PySem.W.Frag} {as : List Addr} {M : Ms} {L H : Hp} {v : V} {d : D} {t : Value} (A : At K as M L H) (r : Rp K as L v d) (h : DTy K d t) : TyX K H v t := by
  cases h with
  | non => cases r; exact .base .non
  | bl b => cases r; exact .base (.bl b)
  | int b => cases r; exact .base (.int b)
  | str b => cases r; exact .base (.str b)
  | lst ds =>
    cases r with
    | lst hs _ =>
      rcases ex_l A.low hs with (h | ⟨o, h⟩) | ⟨o, its, n, h1, h2, _⟩
      · exact .base (.lst h)
      · exact .base (.frz h)
      · exact .kList h1 h2
  | tup ds =>
    cases r with
    | tup hs _ =>
      rcases ex_t A.low hs with (h | ⟨o, h⟩) | ⟨o, its, n, h1, h2, _⟩
      · exact .base (.tup h)
      · exact .fTuple h
      · exact .kTuple h1 h2
  | ins h =>
    cases r with
    | ins hs _ => exact .base (.ins (A.low _ _ hs) h.cl h.ha h.hn h.htk h.hm)
  | dic ks ds =>
    cases r with
    | dic hs _ _ =>
      rcases ex_rd A.low (.inr hs) with h | ⟨o, h⟩
      · exact .base (.dK h)
      · exact .fDict h
  | tfz ns =>
    cases r with
    | tfz h => obtain ⟨o, h, _⟩ := h; exact .fTuple (A.low _ _ h)
@[simp] def oIsi (K : PySem.W.Frag) : DC := fun xs M P => ∃ x c t v u b, xs = [x, c] ∧ DTy K x t ∧ DCl c v u ∧ PySem.W.kitOne K t u = some b ∧ P (.bl b) M
theorem sc_isi {K : PySem.W.Frag} : SimC K (rIsi K) (oIsi K) := by
  intro as L H M xs ds P Q A r ⟨x, c, t, v, u, b, h, ht, hc, hk, p⟩ q
  subst h
  cases r with
  | cons r1 r2 =>
    cases r2 with
    | cons r3 r4 =>
      cases r4
      cases hc with
      | ty n => cases r3; exact ⟨_, _, t, _, b, rfl, .ty n, DTy.ty A r1 ht, hk, q _ _ L H M .refl A p (.bl b)⟩
      | ob C => cases r3; exact ⟨_, _, t, _, b, rfl, .own C, DTy.ty A r1 ht, hk, q _ _ L H M .refl A p (.bl b)⟩
/-- isinstance(e, (T1, T2)) -/
@[simp] def dIsi2 (K : PySem.W.Frag) (te : DE) (n1 n2 : String) : DE := fun ρ M P => te ρ M fun x M1 => ∃ t b, DTy K x t ∧ PySem.W.kitAny K t [.type n1, .type n2] = some b ∧ P (.bl b) M1
theorem pd_isi2 {n1 n2 : Str} {T1 T2 : String} {p p1 p2 tp : Pos} {k : Nat} {te : DE} (hg : Gl X "isinstance") (hm : X.mg "isinstance" = none) (he : PD X e te) (g1 : Gl X n1) (m1 : X.mg n1 = none) (v1 : bootBuiltins n1 = some (.type T1)) (g2 : Gl X n2) (m2 : X.mg n2 = none) (v2 : bootBuiltins n2 = some (.type T2))
    (d1 : n1 ≠ "__name__" := by decide) (d2 : n2 ≠ "__name__" := by decide) (e1 : (n1 == ("__debug__" : Str)) = false := by decide) (e2 : (n2 == ("__debug__" : Str)) = false := by decide)
    (hs1 : starEach [e, .Tuple [.Name n1 p1, .Name n2 p2] k tp] X.env = (false, eval e X.env) :: starEach [.Tuple [.Name n1 p1, .Name n2 p2] k tp] X.env := by rfl) (hs2 : starEach [.Tuple [.Name n1 p1, .Name n2 p2] k tp] X.env = (false, eval (.Tuple [.Name n1 p1, .Name n2 p2] k tp) X.env) :: starEach [] X.env := by rfl)
    (hs3 : starEach [.Name n1 p1, .Name n2 p2] X.env = (false, eval (.Name n1 p1) X.env) :: starEach [.Name n2 p2] X.env := by rfl) (hs4 : starEach [.Name n2 p2] X.env = (false, eval (.Name n2 p2) X.env) :: starEach [] X.env := by rfl)
    (hpl : (backTo pos (starEach [.Tuple [.Name n1 p1, .Name n2 p2] k tp] X.env)).any (·.1) = false := by rfl) (hb : bootBuiltins "isinstance" = some (.builtin "isinstance") := by decide +kernel) :
    PD X (.Call (.Name "isinstance" p) [e, .Tuple [.Name n1 p1, .Name n2 p2] k tp] [] pos) (dIsi2 X.K te T1 T2) := by
  obtain ⟨u, pe, s⟩ := he.ex
  refine ⟨_, pe_callB call_isiT hg hm hb (pa_cons pe (pa_cons (pe_tup (pa_cons (pe_bltn (v := .ty T1) g1 m1 v1 rfl d1 e1) (pa_cons (pe_bltn (v := .ty T2) g2 m2 v2 rfl d2 e2) pa_nil hs4) hs3)) pa_nil hs2) hs1) (by decide) (by decide) hs1 hpl, ?_⟩
  intro as σ ρ L H M P Q hE A h q
  refine s as σ ρ L H M _ _ hE A h fun v d L1 H1 M1 s1 A1 h1 r1 => ?_
  obtain ⟨t, b, ht, hk, p⟩ := h1
  refine ⟨by show 2 ≤ sizeLine; decide, fun pT hT => ?_⟩
  have A2 := A1.know (o := .tup [.ty T1, .ty T2]) hT
  have s2 := Step.know (o := .tup [.ty T1, .ty T2]) A1 hT
  exact ⟨v, pT, _, t, _, b, rfl, upd_same, .cons (.ty T1) (.cons (.ty T2) .nil), DTy.ty A2 (r1.mono s2.k (Pre.refl _)) ht, hk, q _ _ _ _ M1 (s1.trans A1 s2) A2 p (.bl b)⟩
@[simp] def dFld (K : PySem.W.Frag) (t : DE) (f : Str) : DE := fun ρ M P => t ρ M fun x M1 => ∃ C fs v, x = .ins C fs ∧ Cls K C ∧ NoAttr K C f ∧ fs.lookup f = some v ∧ P v M1
theorem pd_fld {f : Str} (he : PD X e t) (hb : attributeBase e f X.env (eval e X.env) = eval e X.env := by rfl) : PD X (.Attribute e f pos) (dFld X.K t f) := by
  obtain ⟨u, p, s⟩ := he.ex
  refine ⟨_, pe_fld p hb, ?_⟩
  intro as σ ρ L H M P Q hE A h q
  refine s as σ ρ L H M _ _ hE A h fun v d L1 H1 M1 s1 A1 h1 r1 => ?_
  obtain ⟨C, fs, w, rfl, c, n, hl, p⟩ := h1
  cases r1 with
  | ins hs rf =>
    obtain ⟨z, h2, h3⟩ := rf.look hl
    exact ⟨_, C, _, _, z, rfl, A1.low _ _ hs, c, n, h2, q _ _ L1 H1 M1 s1 A1 p h3⟩
/-- a property -/
@[simp] def dProp (C : Addr) (W : DC) (t : DE) : DE := fun ρ M P => t ρ M fun x M1 => ∃ fs, x = .ins C fs ∧ W [x] M1 P
theorem pd_prop {C p g : Addr} {k : Nat} {f : Str} {fd : FuncData} {ps : List Str} {W : DC} (he : PD X e t) (c : Cls X.K C) (hp : PropOf X.K C f p g) (F : FnOk X.prog X.w X.K X.mg X.base CX0 k g fd ps (spD 1 W X.K)) (hr : Room (k + 1) X.A) (hb : Binds X.K fd ps [])
    (hab : attributeBase e f X.env (eval e X.env) = eval e X.env := by rfl) : PD X (.Attribute e f pos) (dProp C W t) := by
  obtain ⟨u, pp, s⟩ := he.ex
  refine ⟨_, pe_prop pp c hp F hr hb .nil (E := E0) (pass0 (X := X.nox)) hab, ?_⟩
  intro as σ ρ L H M P Q hE A h q
  refine s as σ ρ L H M _ _ hE A h fun v d L1 H1 M1 s1 A1 h1 r1 => ?_
  obtain ⟨fs, rfl, hw⟩ := h1
  have r1' := r1
  cases r1 with
  | ins hs rf => exact ⟨_, _, _, rfl, A1.low _ _ hs, rfl, as, M1, L1, _, P, .cons r1' .nil, A1, hw, fun v z L2 H2 M2 s2 A2 h2 r2 => q v z L2 H2 M2 (s1.trans A1 s2) A2 h2 r2⟩
mutual
/-- the k-th changeable object is not within -/
def apart (k : Nat) : D → Bool
  | .lst ds => apartA k ds | .tup ds => apartA k ds | .ins _ fs => apartF k fs | .exc _ fs => apartF k fs | .dic _ ds => apartA k ds | .dit _ ds => apartA k ds | .mu j => decide (j < k)
  | _ => true
def apartA (k : Nat) : List D → Bool
  | [] => true
  | d :: ds => apart k d && apartA k ds
def apartF (k : Nat) : List (Str × D) → Bool
  | [] => true
  | (_, d) :: fs => apart k d && apartF k fs
end
def apartM (k : Nat) (M : Ms) : Bool := M.all fun m => match m with
  | .lst ds => apartA k ds
  | .ins _ fs => apartF k fs
  | .tab _ _ => true
  | .dic _ ds => apartA k ds
  | .dit _ ds => apartA k ds
section
variable {K : PySem.W.Frag} {as : List Addr} {x : Addr} {L : Hp}
mutual
theorem Rp.cut : ∀ {v : V} {d : D}, Rp K (as ++ [x]) L v d → apart as.length d = true → Rp K as L v d
  | _, _, .non, _ => .non
  | _, _, .bl b, _ => .bl b
  | _, _, .int i, _ => .int i
  | _, _, .str z, _ => .str z
  | _, _, .lst h r, p => .lst h (RpA.cut r p)
  | _, _, .tup h r, p => .tup h (RpA.cut r p)
  | _, _, .ins h r, p => .ins h (RpF.cut r p)
  | _, _, .mu (k := k) h, p => .mu (by rw [List.getElem?_append_left (of_decide_eq_true p)] at h; exact h)
  | _, _, .ob a, _ => .ob a
  | _, _, .ty n, _ => .ty n
  | _, _, .exc h1 h2 r, p => .exc h1 h2 (RpF.cut r p)
  | _, _, .exc0 h, _ => .exc0 h
  | _, _, .dic h l r, p => .dic h l (RpA.cut r p)
  | _, _, .dit h l r, p => .dit h l (RpA.cut r p)
  | _, _, .tfz h, _ => .tfz h
theorem RpA.cut : ∀ {vs : List V} {ds : List D}, RpA K (as ++ [x]) L vs ds → apartA as.length ds = true → RpA K as L vs ds
  | _, _, .nil, _ => .nil
  | _, _, .cons r t, p => .cons (Rp.cut r (Bool.and_eq_true_iff.mp p).1) (RpA.cut t (Bool.and_eq_true_iff.mp p).2)
theorem RpF.cut : ∀ {fs : List (Str × V)} {gs : List (Str × D)}, RpF K (as ++ [x]) L fs gs → apartF as.length gs = true → RpF K as L fs gs
  | _, _, .nil, _ => .nil
  | _, _, .cons r t, p => .cons (Rp.cut r (Bool.and_eq_true_iff.mp p).1) (RpF.cut t (Bool.and_eq_true_iff.mp p).2)
end
end
theorem pre_app (as : List Addr) (x : Addr) : Pre as (as ++ [x]) := fun k a h => by
  rw [List.getElem?_append_left (List.getElem?_eq_some_iff.mp h).1]
  exact h
/-- C(e, ..): __init__ is given the new instance as the last changeable object -/
@[simp] def dMake (C : Addr) (n : Nat) (W : DC) (tl : DA) : DE := fun ρ M P => tl ρ M fun ds M1 => ds.length + 1 = n ∧ W (.mu M1.length :: ds) (M1 ++ [.ins C []]) fun d M2 => ∃ M3 fs, d = .non ∧ M2 = M3 ++ [.ins C fs] ∧ M3.length = M1.length ∧ apartF M1.length fs = true ∧ apartM M1.length M3 = true ∧ P (.ins C fs) M3
theorem sim_make {K : PySem.W.Frag} {C : Addr} {n : Nat} {W : DC} {u : TA} {E : XK} (s : SimA K u tl) : SimE K (tMake C (spD n W K) [] E u) (dMake C n W tl) := by
  intro as σ ρ L H M P Q hE A h q
  refine s as σ ρ L H M _ _ hE A h fun vs ds L1 H1 M1 s1 A1 h1 r1 => ?_
  intro x dx hx hdx hne
  obtain ⟨hn, hw⟩ := h1
  rw [List.append_nil]
  have xa : x ∉ as := fun z => (A1.held z).2 hx
  have lx : L1 x = none := lowfree A1 hx
  have e0 : ∀ b o, H1 b = some o → (upd (upd H1 dx (.own x)) x (.ins C dx [])) b = some o := fun b o e => by
    rw [upd_ne (ne_of_none e hx), upd_ne (ne_of_none e hdx)]
    exact e
  have A2 : At K (as ++ [x]) (M1 ++ [.ins C []]) L1 (upd (upd H1 dx (.own x)) x (.ins C dx [])) := by
    refine ⟨fun b o e => e0 b o (A1.low b o e), by rw [List.length_append, List.length_append, A1.len]; rfl, ?_, fun k a m g1 g2 => ?_, A1.nt⟩
    · rw [List.nodup_append]
      refine ⟨A1.nd, by simp, fun a ha b hb => ?_⟩
      rw [List.mem_singleton] at hb
      subst hb
      exact fun z => xa (z ▸ ha)
    · by_cases hk : k < as.length
      · rw [List.getElem?_append_left hk] at g1
        rw [List.getElem?_append_left (by rw [← A1.len]; exact hk)] at g2
        obtain ⟨h3, o, h4, h5⟩ := A1.mo k a m g1 g2
        exact ⟨h3, o, e0 a o h4, h5.1.mono (Ex.refl _) (pre_app _ _), h5.2.keep (KeepC.of e0)⟩
      · have e : k = as.length := by
          have := (List.getElem?_eq_some_iff.mp g1).1
          rw [List.length_append] at this
          simp only [List.length_cons, List.length_nil] at this
          omega
        subst e
        rw [List.getElem?_append_right (Nat.le_refl _), Nat.sub_self] at g1
        rw [A1.len, List.getElem?_append_right (Nat.le_refl _), Nat.sub_self] at g2
        cases g1
        cases g2
        exact ⟨lx, _, upd_same, .ins .nil, trivial⟩
  refine ⟨by rw [List.length_cons, r1.length]; exact hn, as ++ [x], M1 ++ [.ins C []], L1, _, _, .cons (.mu ?_) (r1.mono (Ex.refl _) (pre_app _ _)), A2, hw, fun v d L3 H3 M3 s3 A3 h3 r3 => ?_⟩
  · rw [← A1.len, List.getElem?_append_right (Nat.le_refl _), Nat.sub_self]
    rfl
  · obtain ⟨M4, fs, rfl, rfl, hl4, hap, hapM, p⟩ := h3
    cases r3
    refine ⟨rfl, ?_⟩
    have gx : (as ++ [x])[as.length]? = some x := by rw [List.getElem?_append_right (Nat.le_refl _), Nat.sub_self]; rfl
    have gm : (M4 ++ [MO.ins C fs])[as.length]? = some (.ins C fs) := by rw [A1.len, ← hl4, List.getElem?_append_right (Nat.le_refl _), Nat.sub_self]; rfl
    obtain ⟨dx', fv, g1, g2⟩ := A3.ins gx gm
    have g3 : RpF K as L3 fv fs := g2.cut (by rw [A1.len]; exact hap)
    have lx3 : L3 x = none := s3.hid x lx (by rw [upd_same]; simp)
    -- the instance is known for good
    have A4 : At K as M4 (upd L3 x (.ins C dx' fv)) H3 := by
      refine ⟨fun b o e => ?_, by rw [hl4]; exact A1.len, A1.nd, fun k a m e1 e2 => ?_, A3.nt.new (fun ps z => by cases z)⟩
      · by_cases hb : b = x
        · subst hb; rw [upd_same] at e; cases e; exact g1
        · rw [upd_ne hb] at e; exact A3.low b o e
      · have hk : k < as.length := (List.getElem?_eq_some_iff.mp e1).1
        obtain ⟨h5, o, h6, h7⟩ := A3.mo k a m (by rw [List.getElem?_append_left hk]; exact e1) (by rw [List.getElem?_append_left (by rw [hl4, ← A1.len]; exact hk)]; exact e2)
        have hax : a ≠ x := fun z => xa (by rw [← z]; exact List.mem_of_getElem? e1)
        refine ⟨by rw [upd_ne hax]; exact h5, o, h6, ?_, h7.2⟩
        have hm := List.all_eq_true.mp hapM m (List.mem_of_getElem? e2)
        cases h7.1 with
        | lst r => exact .lst ((r.cut (by rw [A1.len]; exact hm)).mono (Ex.new lx3) (Pre.refl _))
        | ins r => exact .ins ((r.cut (by rw [A1.len]; exact hm)).mono (Ex.new lx3) (Pre.refl _))
        | tab => exact .tab
        | dic l r => exact .dic l ((r.cut (by rw [A1.len]; exact hm)).mono (Ex.new lx3) (Pre.refl _))
        | dit l r => exact .dit l ((r.cut (by rw [A1.len]; exact hm)).mono (Ex.new lx3) (Pre.refl _))
    have s4 : Step as L1 H1 as (upd L3 x (.ins C dx' fv)) H3 := by
      refine ⟨fun b o hb e => ?_, fun b o e => ?_, fun b e e' => ?_, Pre.refl _, fun _ e => .inl e⟩
      · have hbx : b ≠ x := ne_of_none e hx
        refine s3.up b o (fun z => ?_) (e0 b o e)
        rcases List.mem_append.mp z with z | z
        · exact hb z
        · exact hbx (List.mem_singleton.mp z)
      · rw [upd_ne (fun z => by rw [z, lx] at e; cases e)]; exact s3.k b o e
      · have hbx : b ≠ x := fun z => e' (by rw [z]; exact hx)
        rw [upd_ne hbx]
        refine s3.hid b e ?_
        cases q2 : H1 b with
        | none => exact absurd q2 e'
        | some o => rw [e0 b o q2]; simp
    exact q _ _ _ H3 M4 (s1.trans A1 s4) A4 p (.ins upd_same (g3.mono (Ex.new lx3) (Pre.refl _)))
end
end Pd
set_option Elab.async false
set_option linter.all false
set_option maxRecDepth 100000
namespace Pd
open PySem PySem.Spec PyProof.Rows L2
abbrev DCN := List D → Ms → (List D → Ms → Prop) → Prop
def spN (n : Nat) (W : DCN) : PySem.W.Frag → Sp := fun K vs H Q _ => vs.length = n ∧ ∃ as M L ds P, RpA K as L vs ds ∧ At K as M L H ∧ W ds M P ∧
  ∀ p xs m L' H' M', Step as L H as L' H' → At K as M' L' H' → H p = none → L' p = none → H' p = some (.lst xs) → RpA K as L' xs m → P m M' → Q (.ref p) H'
section
variable {X : Cx} {e : Expr} {es : List Expr} {t : DE} {tl : DA} {pos p : Pos} {st : Stmt} {sts : List Stmt} {s1 s2 : DS}
/-- the last statement by the layer's own reading -/
theorem sim_then {K : PySem.W.Frag} {ts u : TS} {t : DS} (h : SimS K ts t) {as : List Addr} {σ : L2.St} {ρ : Rho} {L H : Hp} {M : Ms} {nx : Rho → Ms → Prop} {De : DEnds} {D : Ends} (hE : En K as L σ ρ) (A : At K as M L H) (c : Comp K as L H De D)
    (hn : ∀ σ' ρ' L' H' M', Step as L H as L' H' → At K as M' L' H' → En K as L' σ' ρ' → nx ρ' M' → u D σ' H') (ht : t { De with nx := nx } ρ M) : tSeq ts u D σ H :=
  h as σ ρ L H M _ _ hE A ht ⟨hn, c.rt, c.bk, c.ct⟩
def clean (k : Nat) (ρ : Rho) : Rho := ρ.map fun o => match o with
  | some d => if apart k d then some d else none
  | none => none
def cutE (k : Nat) (P : Rho → Ms → Prop) : Rho → Ms → Prop := fun ρ M => ∃ M3 m, M = M3 ++ [m] ∧ M3.length = k ∧ apartM k M3 = true ∧ P (clean k ρ) M3
def cutR (k : Nat) (P : D → Ms → Prop) : D → Ms → Prop := fun d M => ∃ M3 m, M = M3 ++ [m] ∧ M3.length = k ∧ apartM k M3 = true ∧ apart k d = true ∧ P d M3
theorem En.cut {K : PySem.W.Frag} {as : List Addr} {x : Addr} {L : Hp} {σ : L2.St} {ρ : Rho} (h : En K (as ++ [x]) L σ ρ) : En K as L σ (clean as.length ρ) := by
  refine ⟨by unfold clean; rw [List.length_map]; exact h.len, fun i d q => ?_⟩
  unfold clean at q
  rw [List.getElem?_map] at q
  cases e : ρ[i]? with
  | none => rw [e] at q; cases q
  | some o =>
    rw [e] at q
    cases o with
    | none => cases q
    | some d' =>
      have q' : (if apart as.length d' = true then some d' else none) = some d := Option.some.inj q
      by_cases ha : apart as.length d' = true
      · rw [if_pos ha] at q'
        cases q'
        obtain ⟨v, h1, h2⟩ := h.at_ i _ e
        exact ⟨v, h1, h2.cut ha⟩
      · rw [if_neg ha] at q'; cases q'
theorem Ro.cut {K : PySem.W.Frag} {as : List Addr} {x : Addr} {L : Hp} {o : HO} {m : MO} {M : Ms} (r : Ro K (as ++ [x]) L o m) (hm : m ∈ M) (h : apartM as.length M = true) : Ro K as L o m := by
  have hm := List.all_eq_true.mp h m hm
  cases r with
  | lst r => exact .lst (r.cut hm)
  | ins r => exact .ins (r.cut hm)
  | tab => exact .tab
  | dic l r => exact .dic l (r.cut hm)
  | dit l r => exact .dit l (r.cut hm)
theorem At.cut {K : PySem.W.Frag} {as : List Addr} {x : Addr} {M3 : Ms} {m : MO} {L H : Hp} (A : At K (as ++ [x]) (M3 ++ [m]) L H) (h : apartM as.length M3 = true) : At K as M3 L H := by
  have hl : as.length = M3.length := by
    have := A.len
    rw [List.length_append, List.length_append] at this
    simp only [List.length_cons, List.length_nil] at this
    omega
  refine ⟨A.low, hl, (List.nodup_append.mp A.nd).1, fun k a m' e1 e2 => ?_, A.nt⟩
  obtain ⟨h3, o, h4, h5⟩ := A.mo k a m' (by rw [List.getElem?_append_left (List.getElem?_eq_some_iff.mp e1).1]; exact e1) (by rw [List.getElem?_append_left (List.getElem?_eq_some_iff.mp e2).1]; exact e2)
  exact ⟨h3, o, h4, h5.1.cut (List.mem_of_getElem? e2) h, h5.2⟩
theorem At.add {K : PySem.W.Frag} {as : List Addr} {x : Addr} {M : Ms} {L H : Hp} {xs : List V} {ds : List D} (A : At K as M L H) (hx : H x = some (.lst xs)) (lx : L x = none) (xa : x ∉ as) (r : RpA K as L xs ds) : At K (as ++ [x]) (M ++ [.lst ds]) L H := by
  refine ⟨A.low, by rw [List.length_append, List.length_append, A.len]; rfl, ?_, fun k a m g1 g2 => ?_, A.nt⟩
  · rw [List.nodup_append]
    refine ⟨A.nd, by simp, fun a ha b hb => ?_⟩
    rw [List.mem_singleton] at hb
    subst hb
    exact fun z => xa (z ▸ ha)
  · by_cases hk : k < as.length
    · rw [List.getElem?_append_left hk] at g1
      rw [List.getElem?_append_left (by rw [← A.len]; exact hk)] at g2
      obtain ⟨h3, o, h4, h5⟩ := A.mo k a m g1 g2
      exact ⟨h3, o, h4, h5.1.mono (Ex.refl _) (pre_app _ _), h5.2⟩
    · have e : k = as.length := by
        have := (List.getElem?_eq_some_iff.mp g1).1
        rw [List.length_append] at this
        simp only [List.length_cons, List.length_nil] at this
        omega
      subst e
      rw [List.getElem?_append_right (Nat.le_refl _), Nat.sub_self] at g1
      rw [A.len, List.getElem?_append_right (Nat.le_refl _), Nat.sub_self] at g2
      cases g1
      cases g2
      exact ⟨lx, _, hx, .lst (r.mono (Ex.refl _) (pre_app _ _)), trivial⟩
/-- x = f(..), a new list that may be changed in the rest of the block -/
@[simp] def sNewN (i n : Nat) (W : DCN) (tl : DA) (rest : DS) : DS := fun De ρ M => tl ρ M fun ds M1 => ds.length = n ∧ W ds M1 fun m M2 => M2.length = M1.length ∧
  rest { nx := cutE M2.length De.nx, rt := cutR M2.length De.rt, bk := cutE M2.length De.bk, ct := cutE M2.length De.ct } (ρ.set i (some (.mu M2.length))) (M2 ++ [.lst m])
theorem Step.cutx {K : PySem.W.Frag} {as : List Addr} {x : Addr} {M : Ms} {L0 H0 L H L' H' : Hp} (s : Step as L0 H0 as L H) (A : At K as M L H) (hx : H0 x = none) (t : Step (as ++ [x]) L H (as ++ [x]) L' H') : Step as L0 H0 as L' H' := by
  have there : ∀ a, H0 a ≠ none → H a ≠ none := fun a h => by
    by_cases ha : a ∈ as
    · exact (A.held ha).2
    · cases q : H0 a with
      | none => exact absurd q h
      | some o => rw [s.up a o ha q]; simp
  refine ⟨fun a o ha h => ?_, s.k.trans t.k, fun a h h' => t.hid a (s.hid a h h') (there a h'), Pre.refl _, fun _ h => .inl h⟩
  refine t.up a o (fun z => ?_) (s.up a o ha h)
  rcases List.mem_append.mp z with z | z
  · exact ha z
  · rw [List.mem_singleton.mp z, hx] at h; cases h
theorem sim_rest {K : PySem.W.Frag} {ts : TS} {rest : DS} (h : SimS K ts rest) {as : List Addr} {x : Addr} {σ : L2.St} {ρ : Rho} {i : Nat} {L0 H0 L H : Hp} {M : Ms} {m : List D} {xs : List V} {De : DEnds} {D : Ends} (hE : En K as L σ ρ) (A : At K as M L H) (hx : H x = some (.lst xs)) (lx : L x = none) (xa : x ∉ as)
    (r : RpA K as L xs m) (s : Step as L0 H0 as L H) (hx0 : H0 x = none) (c : Comp K as L0 H0 De D) (hr : rest { nx := cutE M.length De.nx, rt := cutR M.length De.rt, bk := cutE M.length De.bk, ct := cutE M.length De.ct } (ρ.set i (some (.mu M.length))) (M ++ [.lst m])) : ts D (σ.set i (some (.ref x))) H := by
  have A2 := A.add hx lx xa r
  have gx : (as ++ [x])[M.length]? = some x := by rw [← A.len, List.getElem?_append_right (Nat.le_refl _), Nat.sub_self]; rfl
  have E2 : En K (as ++ [x]) L (σ.set i (some (.ref x))) (ρ.set i (some (.mu M.length))) := (hE.mono (Ex.refl _) (pre_app _ _)).set i (.mu gx)
  have fin : ∀ {d : Rho → Ms → Prop} {v : L2.St → Hp → Prop}, EndN K as L0 H0 d v → EndN K (as ++ [x]) L H (cutE M.length d) v := by
    intro d v hd σ' ρ' L' H' M' s' A' e' q
    obtain ⟨M3, m', rfl, hl, hap, q⟩ := q
    rw [← A.len] at hap q
    exact hd σ' _ L' H' M3 (s.cutx A hx0 s') (A'.cut hap) e'.cut q
  refine h (as ++ [x]) _ _ L H _ _ D E2 A2 hr ⟨fin c.nx, fun v d L' H' M' s' A' q rv => ?_, fin c.bk, fin c.ct⟩
  obtain ⟨M3, m', rfl, hl, hap, hd, q⟩ := q
  rw [← A.len] at hap hd
  exact c.rt v d L' H' M3 (s.cutx A hx0 s') (A'.cut hap) q (rv.cut hd)
theorem pdss_newN {k i n : Nat} {f : Addr} {fd : FuncData} {ps : List Str} {W : DCN} {x y : Str} {p' cp : Pos} (hN : X.N.Nodup) (F : FnOk X.prog X.w X.K X.mg X.base CX0 k f fd ps (spN n W X.K)) (hr : Room k X.A) (hg : Gl X x) (hm : X.mg x = some (.ref f)) (hk : PySem.W.keepIn X.K (.ref f) = true)
    (hb : Binds X.K fd ps []) (ha : PDA X (e :: es) tl) (hrest : PDSs X sts s2) (hi : X.N[i]? = some y := by rfl) (hy : Loc X.env.scope y := by first | exact Or.inl rfl | exact Or.inr rfl) (hs : swapsWith (.Call (.Name x p) (e :: es) [] cp) (some (.Name y p')) pos.line X.env = pure false := by rfl)
    (hf : X.fn y = true ∨ X.env.scope.names.lookup y = some .local := by first | exact .inl rfl | exact .inr rfl | assumption)
    (hdb : (x == ("__debug__" : Str)) = false := by decide) (he : starEach (e :: es) X.env = (false, eval e X.env) :: starEach es X.env := by rfl) (hpl : (backTo cp (starEach es X.env)).any (·.1) = false := by rfl) :
    PDSs X (.Assign [.Name y p'] (.Call (.Name x p) (e :: es) [] cp) pos :: sts) (sNewN i n W tl s2) := by
  obtain ⟨u, pa, sa⟩ := ha.ex
  obtain ⟨ur, pr, sr⟩ := hrest.ex
  refine ⟨_, pss_cons (ps_set hN hi hy (pe_call F hr hg hm hk hb .nil pass0 pa hdb he hpl) hs hf) pr, ?_⟩
  intro as σ ρ L H M De D hE A h c
  refine sa as σ ρ L H M _ _ hE A h fun vs ds L1 H1 M1 s1 A1 h1 r1 => ?_
  rw [List.append_nil]
  refine ⟨by rw [r1.length]; exact h1.1, as, M1, L1, ds, _, r1, A1, h1.2, fun a xs m L2 H2 M2 s2 A2 ha0 la hx rx hw => ?_⟩
  obtain ⟨hl, hw⟩ := hw
  have an : a ∉ as := fun z => (A1.held z).2 ha0
  have hH : H a = none := by
    cases q : H a with
    | none => rfl
    | some o => rw [s1.up a o an q] at ha0; cases ha0
  exact sim_rest sr (hE.mono ((s1.trans A1 s2).k) (Pre.refl _)) A2 hx la an rx (s1.trans A1 s2) hH c hw
end
end Pd
set_option Elab.async false
set_option linter.all false
set_option maxRecDepth 100000
set_option maxHeartbeats 1000000
namespace Pd
open PySem PySem.Spec PyProof.Rows L2
structure IntD (K : PySem.W.Frag) (P : Program) (w : World) (d : Addr) (f : Int → Option Int) : Prop where
  ex : ∃ es n, K.lookup d = some ⟨.type "dict", none, .dict es n, #[]⟩ ∧ KeysOf (intKind P w) es ∧ ∀ k, (findBy Value.isInt es k = none ∧ f k = none) ∨ ∃ v t, findBy Value.isInt es k = some (.int v t) ∧ f k = some v
  low : (d == sysModules) = false
section
variable {X : Cx} {d : Addr} {f : Int → Option Int}
theorem op_in_id (D : IntD X.K X.prog X.w d f) : OpR X (compareOp .In) (fun x y H Q => ∃ z, x = .int z ∧ y = .ref d ∧ Q (.bl (f z).isSome) H) := by
  intro pins s σ H x y v u Q I rx ry h
  obtain ⟨z, rfl, rfl, q⟩ := h
  obtain ⟨t, rfl⟩ := rx
  cases ry
  obtain ⟨es, n, h1, h2, h3⟩ := D.ex
  have hm : s.heap.MapOf (intKind X.prog X.w) d (fun k => findBy Value.isInt es k) := ⟨_, es, n, I.kIn _ _ h1, ⟨rfl, rfl, rfl⟩, rfl, h2, fun _ => rfl⟩
  refine wpAny_in_of (PySem.intKind_is X.prog X.w z t) D.low hm ?_
  rcases h3 z with ⟨e1, e2⟩ | ⟨a, b, e1, e2⟩
  · rw [e1]; rw [e2] at q; exact ⟨.bl false, H, I.tok _, rfl, q⟩
  · rw [e1]; rw [e2] at q; exact ⟨.bl true, H, I.tok _, rfl, q⟩
theorem ix_id (D : IntD X.K X.prog X.w d f) : IxR X (fun x y H Q => ∃ z v, x = .ref d ∧ y = .int z ∧ f z = some v ∧ Q (.int v) H) := by
  intro value slice pins s σ H x y v u Q I rx ry h hs
  obtain ⟨z, a, rfl, rfl, hf, q⟩ := h
  cases rx
  obtain ⟨t, rfl⟩ := ry
  obtain ⟨es, n, h1, h2, h3⟩ := D.ex
  have hm : s.heap.MapOf (intKind X.prog X.w) d (fun k => findBy Value.isInt es k) := ⟨_, es, n, I.kIn _ _ h1, ⟨rfl, rfl, rfl⟩, rfl, h2, fun _ => rfl⟩
  rcases h3 z with ⟨e1, e2⟩ | ⟨b, tb, e1, e2⟩
  · rw [e2] at hf; cases hf
  · rw [e2] at hf
    cases hf
    exact tail_any hm.typeIs PySem.F.slot_dict_getitem.lookup (wpAny_getItem_of (PySem.intKind_is X.prog X.w z t) hm e1 ⟨.int a, H, I.tok _, ⟨tb, rfl⟩, q⟩) hs
end
@[simp] def oInD (d : Addr) (f : Int → Option Int) : D2 := fun x y M P => ∃ z, x = .int z ∧ y = .ob d ∧ P (.bl (f z).isSome) M
theorem sr_inD {K : PySem.W.Frag} {d : Addr} {f : Int → Option Int} : SimR K (fun x y H Q => ∃ z, x = .int z ∧ y = .ref d ∧ Q (.bl (f z).isSome) H) (oInD d f) := by
  intro as L H M x y d1 e P Q A r1 r2 ⟨z, h1, h2, p⟩ q
  subst h1; subst h2
  cases r1; cases r2
  exact ⟨z, rfl, rfl, q _ _ L H M .refl A p (.bl _)⟩
@[simp] def oIxD (d : Addr) (f : Int → Option Int) : D2 := fun x y M P => ∃ z v, x = .ob d ∧ y = .int z ∧ f z = some v ∧ P (.int v) M
theorem sr_ixD {K : PySem.W.Frag} {d : Addr} {f : Int → Option Int} : SimR K (fun x y H Q => ∃ z v, x = .ref d ∧ y = .int z ∧ f z = some v ∧ Q (.int v) H) (oIxD d f) := by
  intro as L H M x y d1 e P Q A r1 r2 ⟨z, v, h1, h2, h3, p⟩ q
  subst h1; subst h2
  cases r1; cases r2
  exact ⟨z, v, rfl, rfl, h3, q _ _ L H M .refl A p (.int _)⟩
def iSeqH (K : PySem.W.Frag) (tl : TE) : TI := fun σ H R => tl σ H fun x H1 => ∃ a xs, x = .ref a ∧ ((SqL K H1 a xs ∧ R (Itl K a) H1) ∨ (SqT K H1 a xs ∧ R (Itt K a) H1))
section
variable {X : Cx} {tg l e : Expr} {es : List Expr} {pos : Pos} {t : DE} {tl : DA}
theorem pi_seq {tl : TE} (hl : PE X l tl) : PI X tg l (iSeqH X.K tl) := by
  refine ⟨fun pins s σ H R I h => ?_⟩
  refine thn (hl.run pins s σ H _ I h) fun v s1 ⟨x, H1, I1, r1, q1⟩ => ?_
  obtain ⟨a, xs, e, q⟩ := q1
  subst e
  cases r1
  have fr : ∀ b ∈ [s1.heap.objs.size], FpOk X pins H1 b := fun b hb => by
    have e : b = s1.heap.objs.size := by simpa using hb
    subst e
    exact I1.fpOk (Nat.le_refl _) (I1.hok.fresh (Nat.le_refl _))
  rcases q with ⟨hq, q⟩ | ⟨hq, q⟩
  · obtain ⟨its, rv, p, hz⟩ := I1.list hq
    refine wpAny_pyIter_list p.isList ?_
    exact ⟨s1.heap.objs.size, [s1.heap.objs.size], _, _, H1, rfl, I1.kept (t' := s1.toks) fun b o e => Heap.get?_push_of_some _ e, turn_list a _, ⟨_, Heap.get?_push_size _ rfl, rfl, rfl⟩, fr, q⟩
  · obtain ⟨its, rv, p, hz⟩ := I1.tuple hq
    refine wpAny_pyIter_tuple (show s1.heap.IsTuple a its.toArray from p) ?_
    exact ⟨s1.heap.objs.size, [s1.heap.objs.size], _, _, H1, rfl, I1.kept (t' := s1.toks) fun b o e => Heap.get?_push_of_some _ e, turn_tuple a _, ⟨_, Heap.get?_push_size _ rfl, rfl, rfl⟩, fr, q⟩
/-- a list or a tuple, its items -/
def isSeq : D → List D → Prop := fun d ds => d = .lst ds ∨ d = .tup ds
@[simp] def iSeq (t : DE) : DA := fun ρ M P => t ρ M fun d M1 => ∃ ds, isSeq d ds ∧ P ds M1
theorem pdi_seq (h : PD X e t) : PDI X tg e (iSeq t) := by
  obtain ⟨u, p, s⟩ := h.ex
  refine ⟨_, pi_seq p, ?_⟩
  intro as σ ρ L H M P R hE A h q
  refine s as σ ρ L H M _ _ hE A h fun v d L1 H1 M1 s1 A1 h1 r1 => ?_
  obtain ⟨ds, hd, h1⟩ := h1
  rcases hd with rfl | rfl
  · cases r1 with
    | lst hs ra => exact ⟨_, _, rfl, .inl ⟨ex_l A1.low hs, q _ ds L1 H1 M1 s1 A1 h1 (walks_list hs ra)⟩⟩
  · cases r1 with
    | tup hs ra => exact ⟨_, _, rfl, .inr ⟨ex_t A1.low hs, q _ ds L1 H1 M1 s1 A1 h1 (walks_tup hs ra)⟩⟩
@[simp] def oTuple : DC := fun xs M P => ∃ d ds, xs = [d] ∧ isSeq d ds ∧ P (.tup ds) M
theorem sc_tuple {K : PySem.W.Frag} : SimC K (fun xs H Q => ∃ p ys, xs = [.ref p] ∧ ((SqL K H p ys ∧ ∀ l, H l = none → Q (.ref l) (upd H l (.tup ys))) ∨ (SqT K H p ys ∧ Q (.ref p) H))) oTuple := by
  intro as L H M xs ds P Q A r ⟨d, es, h, hd, p⟩ q
  subst h
  cases r with
  | cons r1 r2 =>
    cases r2
    rcases hd with rfl | rfl
    · cases r1 with
      | lst hs ra => exact ⟨_, _, rfl, .inl ⟨ex_l A.low hs, fun l hl => q _ _ _ _ M (Step.know A hl) (A.know hl) p (.tup (.inl (.inl upd_same)) (ra.mono (Ex.new (lowfree A hl)) (Pre.refl _)))⟩⟩
    · cases r1 with
      | tup hs ra => exact ⟨_, _, rfl, .inr ⟨ex_t A.low hs, q _ _ L H M .refl A p (.tup hs ra)⟩⟩
def rAnyT (K : PySem.W.Frag) : List V → Hp → VK → Prop := fun vs H Q => ∃ (a : Addr) (ns : List Int), vs = [V.ref a] ∧ SqT K H a (ns.map V.int) ∧ Q (.bl (ns.any fun n => n != 0)) H
theorem any_rangeI : ∀ bs : List Int, (List.range bs.length).any (fun i => (bs.getD i 0) != 0) = bs.any fun n => n != 0
  | [] => rfl
  | b :: bs => by
    rw [List.length_cons, List.range_succ_eq_map, List.any_cons, List.any_map, List.any_cons, ← any_rangeI bs]
    all_goals rfl
theorem cr_anyT (hc : X.calm = true) : CallR X (.builtin "any") (rAnyT X.K) := by
  intro pins s σ H vs us Q I r h
  obtain ⟨a, ns, rfl, hs, q⟩ := h
  obtain ⟨its, rv, hl, _⟩ := I.tuple hs
  rw [Vals.ref1 r]
  have hlt : a < s.heap.objs.size := by obtain ⟨o, e, _⟩ := hl; exact Heap.lt_size e
  have hlen := rv.length
  rw [List.length_map] at hlen
  refine call_any_walk (wpAny_pyIter_tuple (show s.heap.IsTuple a its.toArray from hl) ?_)
  refine ⟨_, _, _, _, _, _, fun i => (ns.getD i 0) != 0, rfl, Walks.tuple (A := X.A.in1) (I.ok.hd hc) _ a (Nat.ne_of_lt hlt) its.toArray, ⟨⟨_, Heap.get?_push_size _ rfl, rfl, rfl⟩, hl.push _⟩, fun i v s' Q' E' hv hq => ?_, fun h' tk hk => ?_⟩
  · have hv' : its[i]? = some v := by simpa using hv
    obtain ⟨n, hn⟩ : ∃ n, ns[i]? = some n := by
      have h1 : i < its.length := (List.getElem?_eq_some_iff.mp hv').1
      exact ⟨ns[i]'(by omega), List.getElem?_eq_getElem (by omega)⟩
    obtain ⟨u, hu, ru⟩ := rv.get (i := i) (x := .int n) (by rw [List.getElem?_map, hn]; rfl)
    rw [hv'] at hu
    cases hu
    obtain ⟨t, rfl⟩ := ru
    have hg : ns.getD i 0 = n := by rw [List.getD_eq_getElem?_getD, hn]; rfl
    simp only [hg] at hq
    exact PyProof.Rows.truthy_int hq
  · refine ⟨.bl _, H, I.kept fun b o eo => hk b o (fun hmem => ?_) (Heap.get?_push_of_some _ eo), ?_, q⟩
    · rcases List.mem_cons.mp hmem with e1 | hmem
      · exact absurd (e1 ▸ Heap.lt_size eo) (Nat.lt_irrefl _)
      · cases hmem
    · show Value.bool _ = Value.bool _
      rw [← any_rangeI, List.size_toArray, ← hlen]
end
end Pd
set_option Elab.async false
set_option linter.all false
set_option maxRecDepth 100000
set_option maxHeartbeats 1000000
namespace Pd
open PySem PySem.Spec PyProof.Rows L2
inductive Kd | l | t
def SqK (K : PySem.W.Frag) : Kd → Hp → Addr → List V → Prop
  | .l => SqL K
  | .t => SqT K
def IterK : Kd → Heap → Addr → Addr → Nat → Prop
  | .l => fun h it a i => h.IsListIter it a i
  | .t => fun h it a i => h.IsTupleIter it a i
def SeqAtK : Kd → Heap → Addr → Array Value → Prop
  | .l => fun h a items => h.IsList a items
  | .t => fun h a items => h.IsTuple a items
def itObj : Kd → Addr → Obj
  | .l, a => { cls := .type "list_iterator", data := .fields #[.ref a, .int 0 0] }
  | .t, a => { cls := .type "tuple_iterator", data := .fields #[.ref a, .int 0 0] }
theorem drawsK (k : Kd) {prog : Program} {w : World} {A : Around} (hh : A.handled = none) (it l : Addr) (hne : l ≠ it) (items : Array Value) :
    Draws prog w A it [it, l] items.size (fun i v => items[i]? = some v) (fun i h => IterK k h it l i ∧ SeqAtK k h l items) := by
  cases k with
  | l => exact Draws.list hh it l hne items
  | t => exact Draws.tuple hh it l hne items
theorem beginsK (k : Kd) (a : Addr) (items : Array Value) : Begins (.ref a) (itObj k a) fun h => SeqAtK k h a items := by
  cases k with
  | l => exact begins_list a items
  | t => exact begins_tuple a items
theorem iterK_at {k : Kd} {h h' : Heap} {it a : Addr} {i : Nat} (x : IterK k h it a i) (hk : ∀ o, h.get? it = some o → h'.get? it = some o) : IterK k h' it a i := by
  cases k with
  | l => exact Heap.IsListIter.at x hk
  | t => exact Heap.IsTupleIter.at x hk
theorem iterK_obj {k : Kd} {h : Heap} {it a : Addr} {i : Nat} (x : IterK k h it a i) : ∃ o, h.get? it = some o ∧ ∀ v, o.data ≠ .cell v := by
  cases k with
  | l => obtain ⟨o, e, _, d⟩ := x; exact ⟨o, e, fun v z => by rw [d] at z; cases z⟩
  | t => obtain ⟨o, e, _, d⟩ := x; exact ⟨o, e, fun v z => by rw [d] at z; cases z⟩
theorem iterK_new {k : Kd} {h : Heap} {it a : Addr} (e : h.get? it = some (itObj k a)) : IterK k h it a 0 := by
  cases k with
  | l => exact ⟨_, e, rfl, rfl⟩
  | t => exact ⟨_, e, rfl, rfl⟩
theorem sqK_at {X : Cx} {pins : List (Addr × Obj)} {σ : L2.St} {H : Hp} {s : Shared} {k : Kd} {a : Addr} {xs : List V} (I : Inv X pins σ H s) (h : SqK X.K k H a xs) : ∃ its : List Value, Vals xs its ∧ SeqAtK k s.heap a its.toArray ∧ a < s.heap.objs.size := by
  cases k with
  | l =>
    obtain ⟨its, r, p, _⟩ := I.list h
    exact ⟨its, r, p.isList, p.lt⟩
  | t =>
    obtain ⟨its, r, p, _⟩ := I.tuple h
    exact ⟨its, r, p, by obtain ⟨o, e, _⟩ := p; exact Heap.lt_size e⟩
theorem sqK_inj {X : Cx} {pins : List (Addr × Obj)} {σ : L2.St} {H : Hp} {s : Shared} {k : Kd} {a : Addr} {xs ys : List V} (I : Inv X pins σ H s) (h : SqK X.K k H a xs) (h' : SqK X.K k H a ys) : xs = ys := by
  cases k with
  | l => exact I.list_inj h h'
  | t => exact I.tuple_inj h h'
def Itz2 (K : PySem.W.Frag) (ka kb : Kd) (a b : Addr) : It :=
  ⟨fun i H => ∃ (xs ys : List V) (x y : V), SqK K ka H a xs ∧ SqK K kb H b ys ∧ xs[i]? = some x ∧ ys[i]? = some y,
    fun i H v H' => ∃ T x y, v = .ref T ∧ H T = none ∧ H' = upd H T (.tup [x, y]) ∧ (∀ xs, SqK K ka H a xs → xs[i]? = some x) ∧ ∀ ys, SqK K kb H b ys → ys[i]? = some y,
    fun i H => ∃ xs ys : List V, SqK K ka H a xs ∧ SqK K kb H b ys ∧ i = min xs.length ys.length⟩
theorem zsep {z TI TO i1 i2 a b : Addr} (D : ZipApart z TI TO i1 i2 a b) : ZipSep2 z TI TO i1 i2 [i1, a] [i2, b] where
  TIz := D.TIz
  TOz := D.TOz
  TITO := D.TITO
  TIi1 := D.TIi1
  mem1 := by simp
  zf1 := by simp; exact ⟨fun e => D.i1z e.symm, fun e => D.l1z e.symm⟩
  Tf1 := by simp; exact ⟨D.TOi1, fun e => D.l1TO e.symm⟩
  TIi2 := D.TIi2
  mem2 := by simp
  zf2 := by simp; exact ⟨fun e => D.i2z e.symm, fun e => D.l2z e.symm⟩
  Tf2 := by simp; exact ⟨D.TOi2, fun e => D.l2TO e.symm⟩
  sep1_2 := by simp; exact ⟨D.i12, fun e => D.l2i1 e.symm⟩
  sep2_1 := by simp; exact ⟨fun e => D.i12 e.symm, fun e => D.l1i2 e.symm⟩
theorem turn_z2 {P : Program} {w : World} {K : PySem.W.Frag} {elts : List Expr} {kk : Nat} {tpos : Pos} (ka kb : Kd) {a b z TI TO i1 i2 : Addr} (D : ZipApart z TI TO i1 i2 a b) :
    Turn P w K (.Tuple elts kk tpos) (Itz2 K ka kb a b) [z, TI, TO, i1, i2] z (fun i h => IsZip h z TI TO .none ∧ IsTupOf2 h TI (.ref i1) (.ref i2) ∧ (∃ x y, IsTupOf2 h TO x y) ∧ IterK ka h i1 a i ∧ IterK kb h i2 b i) where
  mem := by simp
  obj := fun i h st c hc => by
    obtain ⟨hz, hTI, ⟨x, y, hTO⟩, h1, h2⟩ := st
    have e' : c = z ∨ c = TI ∨ c = TO ∨ c = i1 ∨ c = i2 := by simpa using hc
    rcases e' with q | q | q | q | q
    · rw [q]; exact ⟨_, hz, fun v q => nomatch q⟩
    · rw [q]; exact ⟨_, hTI, fun v q => nomatch q⟩
    · rw [q]; exact ⟨_, hTO, fun v q => nomatch q⟩
    · rw [q]; exact iterK_obj h1
    · rw [q]; exact iterK_obj h2
  keep := fun i h h' st k => by
    obtain ⟨hz, hTI, ⟨x, y, hTO⟩, h1, h2⟩ := st
    exact ⟨k z (by simp) _ hz, k TI (by simp) _ hTI, ⟨x, y, k TO (by simp) _ hTO⟩, iterK_at h1 fun o q => k i1 (by simp) o q, iterK_at h2 fun o q => k i2 (by simp) o q⟩
  item := by
    intro X hP hw hK hc i pins s σ H E I hf st hg
    subst hP hw hK
    obtain ⟨hz, hTI, ⟨x0, y0, hTO⟩, h1, h2⟩ := st
    obtain ⟨xs, ys, x, y, hqx, hqy, hx, hy⟩ := hg
    obtain ⟨its, rv, p, _⟩ := sqK_at I hqx
    obtain ⟨its2, rv2, p2, _⟩ := sqK_at I hqy
    obtain ⟨u, hu, ru⟩ := rv.get hx
    obtain ⟨u2, hu2, ru2⟩ := rv2.get hy
    have hzl : z < s.heap.objs.size := Heap.lt_size hz
    have hi1 : i < its.toArray.size := by simpa using (List.getElem?_eq_some_iff.mp hu).1
    have hi2 : i < its2.toArray.size := by simpa using (List.getElem?_eq_some_iff.mp hu2).1
    refine wpAny_pyNext_zipD2_item (zsep D) (drawsK ka (A := X.A.in1) (I.ok.hd hc) i1 a D.l1i1 its.toArray) (drawsK kb (A := X.A.in1) (I.ok.hd hc) i2 b D.l2i2 its2.toArray) hz hTI hTO ⟨h1, p⟩ ⟨h2, p2⟩ hi1 hi2 fun x1 x2 h' tk g1 g2 z' TO' st1 st2 hT hsz hk => ?_
    have e1 : x1 = u := by
      have g1' : its[i]? = some x1 := by simpa using g1
      rw [hu] at g1'; exact (Option.some.inj g1').symm
    have e2 : x2 = u2 := by
      have g2' : its2[i]? = some x2 := by simpa using g2
      rw [hu2] at g2'; exact (Option.some.inj g2').symm
    subst e1; subst e2
    refine ⟨_, rfl, wpAny_letOwnedTupleGo_zip (s := { s with heap := h', toks := tk }) z' fun h'' z'' sb => ?_⟩
    have hT2 : h''.get? s.heap.objs.size = some { cls := .type "tuple", data := .seq #[x1, x2] } := (sb.2 _ (Nat.ne_of_gt hzl)).trans hT
    have new : ObjOk X.prog X.w (upd H s.heap.objs.size (.tup [x, y])) h'' s.heap.objs.size (.tup [x, y]) :=
      ⟨by show 2 ≤ sizeLine; decide, [x1, x2], .cons ru (.cons ru2 .nil), ⟨_, hT2, rfl, _, rfl⟩⟩
    have I1 : Inv X pins σ (upd H s.heap.objs.size (.tup [x, y])) { s with heap := h'', toks := tk } :=
      I.turnedNew (t' := tk) (ch := [z, TI, TO, i1, i2]) (fun c o hb q => (sb.2 c (fun q' => hb (by simp [q']))).trans (hk c o (fun q' => hb (by simp [q'])) (fun q' => hb (by simp [q'])) (fun q' => hb (by simp [q'])) (fun q' => hb (by simp [q'])) q)) hf (Nat.le_refl _) new
    refine ⟨.ref s.heap.objs.size, _, I1, rfl, ⟨_, x, y, rfl, I.hok.fresh (Nat.le_refl _), rfl, fun l hl => by rw [sqK_inj I hl hqx]; exact hx, fun l hl => by rw [sqK_inj I hl hqy]; exact hy⟩, ⟨z'', ?_, ⟨x1, x2, ?_⟩, ?_, ?_⟩, fun c hcm => ?_⟩
    · exact (sb.2 _ D.TIz).trans (hk _ _ D.TIz D.TITO D.TIi1 D.TIi2 hTI)
    · exact (sb.2 _ D.TOz).trans TO'
    · exact iterK_at st1.1 fun o q => (sb.2 _ D.i1z).trans q
    · exact iterK_at st2.1 fun o q => (sb.2 _ D.i2z).trans q
    · have hlt : c < s.heap.objs.size := by
        have e' : c = z ∨ c = TI ∨ c = TO ∨ c = i1 ∨ c = i2 := by simpa using hcm
        rcases e' with q | q | q | q | q
        · rw [q]; exact hzl
        · rw [q]; exact Heap.lt_size hTI
        · rw [q]; exact Heap.lt_size hTO
        · rw [q]; obtain ⟨_, e1, _⟩ := iterK_obj h1; exact Heap.lt_size e1
        · rw [q]; obtain ⟨_, e2, _⟩ := iterK_obj h2; exact Heap.lt_size e2
      rw [upd_ne (Nat.ne_of_lt hlt)]
      exact (hf c hcm).1
  done := by
    intro X hP hw hK hc i pins s σ H E I hf st hg
    subst hP hw hK
    obtain ⟨hz, hTI, ⟨x0, y0, hTO⟩, h1, h2⟩ := st
    obtain ⟨xs, ys, hqx, hqy, hend⟩ := hg
    obtain ⟨its, rv, p, _⟩ := sqK_at I hqx
    obtain ⟨its2, rv2, p2, _⟩ := sqK_at I hqy
    have l1 := rv.length
    have l2 := rv2.length
    refine wpAny_pyNext_zipD2_end (zsep D) (drawsK ka (A := X.A.in1) (I.ok.hd hc) i1 a D.l1i1 its.toArray) (drawsK kb (A := X.A.in1) (I.ok.hd hc) i2 b D.l2i2 its2.toArray) hz hTI hTO ⟨h1, p⟩ ⟨h2, p2⟩ (by simp; omega) (by simp; omega) (by simp; omega) fun h' tk hk => ?_
    exact ⟨rfl, I.turnedL (t' := tk) (ch := [z, TI, TO, i1, i2]) (fun c o hb q => hk c o (fun q' => hb (by simp [q'])) (fun q' => hb (by simp [q'])) (fun q' => hb (by simp [q'])) (fun q' => hb (by simp [q'])) q) hf⟩
  self := fun A i s Q E st h => wpAny_pyIter_zip st.1 h
def iZip2 (K : PySem.W.Frag) (ta : TA) : TI := fun σ H R => ta σ H fun vs H1 => ∃ ka kb a b xs ys, vs = [.ref a, .ref b] ∧ SqK K ka H1 a xs ∧ SqK K kb H1 b ys ∧ R (Itz2 K ka kb a b) H1
section
variable {X : Cx} {e e2 : Expr} {pos p tpos : Pos} {elts : List Expr} {kk : Nat} {tl : DA}
theorem pi_zip2 {ta : TA} (hg : Gl X "zip") (hm : X.mg "zip" = none) (ha : PA X [e, e2] ta)
    (hs : starEach [e, e2] X.env = (false, eval e X.env) :: starEach [e2] X.env := by rfl) (hpl : (backTo pos (starEach [e2] X.env)).any (·.1) = false := by rfl) :
    PI X (.Tuple elts kk tpos) (.Call (.Name "zip" p) [e, e2] [] pos) (iZip2 X.K ta) := by
  refine ⟨fun pins s σ H R I h => ?_⟩
  refine Call_ (ld_blt I hg hm PyProof.Rows.boot_zip (PyProof.Rows.callWith_type1 (thn (ha.run pos pins s σ H _ I h) fun us s1 ⟨vs, H1, I1, r1, q1⟩ => ?_) hs hpl))
  obtain ⟨ka, kb, a, b, xs, ys, ex, hqx, hqy, q⟩ := q1
  subst ex
  cases r1 with
  | cons r rr =>
    cases rr with
    | cons r' rr =>
      cases rr
      cases r
      cases r'
      have fresh5 : ∀ c, c ∈ [s1.heap.objs.size + 4, s1.heap.objs.size + 2, s1.heap.objs.size + 3, s1.heap.objs.size, s1.heap.objs.size + 1] → FpOk X pins H1 c := fun c hcm => by
        have e' : c = s1.heap.objs.size + 4 ∨ c = s1.heap.objs.size + 2 ∨ c = s1.heap.objs.size + 3 ∨ c = s1.heap.objs.size ∨ c = s1.heap.objs.size + 1 := by simpa using hcm
        have hle : s1.heap.objs.size ≤ c := by
          rcases e' with z | z | z | z | z
          · rw [z]; exact Nat.le_add_right _ _
          · rw [z]; exact Nat.le_add_right _ _
          · rw [z]; exact Nat.le_add_right _ _
          · rw [z]; exact Nat.le_refl _
          · rw [z]; exact Nat.le_add_right _ _
        exact I1.fpOk hle (I1.hok.fresh hle)
      obtain ⟨its, rv, p1, l1⟩ := sqK_at I1 hqx
      obtain ⟨its2, rv2, p2, l2⟩ := sqK_at I1 hqy
      refine zip_begins2 (beginsK ka a its.toArray) (beginsK kb b its2.toArray) p1 p2 fun h' hz hTI hTO h1 h2 hsz hk => wpAny_pyIter_zip hz ?_
      have I2 : Inv X pins σ H1 { s1 with heap := h' } := I1.kept (t' := s1.toks) hk
      exact ⟨s1.heap.objs.size + 4, [s1.heap.objs.size + 4, s1.heap.objs.size + 2, s1.heap.objs.size + 3, s1.heap.objs.size, s1.heap.objs.size + 1], _, _, H1, rfl, I2, turn_z2 ka kb (PySem.W.ktu_apart s1.heap.objs.size a b l1 l2), ⟨hz, hTI, ⟨_, _, hTO⟩, iterK_new h1, iterK_new h2⟩, fresh5, q⟩
/-- the pairs -/
def pairs : List D → List D → List D
  | x :: xs, y :: ys => .tup [x, y] :: pairs xs ys
  | _, _ => []
theorem pairs_get : ∀ (xs ys : List D) (i : Nat) (x y : D), xs[i]? = some x → ys[i]? = some y → (pairs xs ys)[i]? = some (.tup [x, y])
  | x :: xs, y :: ys, 0, a, b, h1, h2 => by simp at h1 h2; subst h1; subst h2; rfl
  | x :: xs, y :: ys, i + 1, a, b, h1, h2 => pairs_get xs ys i a b h1 h2
  | [], _, _, _, _, h1, _ => by simp at h1
  | _ :: _, [], _, _, _, _, h2 => by simp at h2
theorem pairs_len : ∀ (xs ys : List D), (pairs xs ys).length = min xs.length ys.length
  | [], ys => by simp [pairs]
  | _ :: _, [] => by simp [pairs]
  | x :: xs, y :: ys => by
    show (pairs xs ys).length + 1 = _
    rw [pairs_len xs ys, List.length_cons, List.length_cons]
    omega
@[simp] def iZp (tl : DA) : DA := fun ρ M P => tl ρ M fun ds M1 => ∃ d e xs ys, ds = [d, e] ∧ isSeq d xs ∧ isSeq e ys ∧ P (pairs xs ys) M1
theorem rp_seq {K : PySem.W.Frag} {as : List Addr} {L : Hp} {v : V} {d : D} {ds : List D} (r : Rp K as L v d) (h : isSeq d ds) : ∃ k a xs, v = .ref a ∧ SqK K k L a xs ∧ RpA K as L xs ds := by
  rcases h with rfl | rfl
  · cases r with | lst hs ra => exact ⟨.l, _, _, rfl, hs, ra⟩
  · cases r with | tup hs ra => exact ⟨.t, _, _, rfl, hs, ra⟩
theorem ex_k {K : PySem.W.Frag} {k : Kd} {H H' : Hp} {a : Addr} {xs : List V} (e : Ex H H') (h : SqK K k H a xs) : SqK K k H' a xs := by
  cases k with
  | l => exact ex_l e h
  | t => exact ex_t e h
theorem walks_zip {K : PySem.W.Frag} {as : List Addr} {L0 : Hp} {ka kb : Kd} {a b : Addr} {xs ys : List V} {ds es : List D} (h1 : SqK K ka L0 a xs) (r1 : RpA K as L0 xs ds) (h2 : SqK K kb L0 b ys) (r2 : RpA K as L0 ys es) : Walks K (Itz2 K ka kb a b) as L0 (pairs ds es) := by
  intro L H M e A
  have g1 := ex_k (e.trans A.low) h1
  have g2 := ex_k (e.trans A.low) h2
  refine ⟨fun i hi => ?_, xs, ys, g1, g2, by rw [pairs_len, r1.length, r2.length]⟩
  rw [pairs_len] at hi
  have i1 : i < xs.length := by rw [r1.length]; omega
  have i2 : i < ys.length := by rw [r2.length]; omega
  refine ⟨⟨xs, ys, _, _, g1, g2, List.getElem?_eq_getElem i1, List.getElem?_eq_getElem i2⟩, fun v H' y => ?_⟩
  obtain ⟨T, x, y, rfl, hT, rfl, f1, f2⟩ := y
  obtain ⟨d1, q1, w1⟩ := r1.getV (f1 xs g1)
  obtain ⟨d2, q2, w2⟩ := r2.getV (f2 ys g2)
  have lT := lowfree A hT
  exact ⟨_, upd L T (.tup [x, y]), pairs_get ds es i d1 d2 q1 q2, Step.know A hT, A.know hT, .tup (.inl (.inl upd_same)) (.cons (w1.mono (e.trans (Ex.new lT)) (Pre.refl _)) (.cons (w2.mono (e.trans (Ex.new lT)) (Pre.refl _)) .nil))⟩
theorem pdi_zip (hg : Gl X "zip") (hm : X.mg "zip" = none) (ha : PDA X [e, e2] tl)
    (hs : starEach [e, e2] X.env = (false, eval e X.env) :: starEach [e2] X.env := by rfl) (hpl : (backTo pos (starEach [e2] X.env)).any (·.1) = false := by rfl) : PDI X (.Tuple elts kk tpos) (.Call (.Name "zip" p) [e, e2] [] pos) (iZp tl) := by
  obtain ⟨u, pa, s⟩ := ha.ex
  refine ⟨_, pi_zip2 hg hm pa hs hpl, ?_⟩
  intro as σ ρ L H M P R hE A h q
  refine s as σ ρ L H M _ _ hE A h fun vs ds L1 H1 M1 s1 A1 h1 r1 => ?_
  obtain ⟨d, f, xs, ys, rfl, hd, hf, p⟩ := h1
  cases r1 with
  | cons ra rb =>
    cases rb with
    | cons rb rc =>
      cases rc
      obtain ⟨ka, a, xv, rfl, g1, w1⟩ := rp_seq ra hd
      obtain ⟨kb, b, yv, rfl, g2, w2⟩ := rp_seq rb hf
      exact ⟨ka, kb, a, b, xv, yv, rfl, ex_k A1.low g1, ex_k A1.low g2, q _ _ L1 H1 M1 s1 A1 p (walks_zip g1 w1 g2 w2)⟩
end
@[simp] def oAnyT : DC := fun xs M P => ∃ ns : List Int, xs = [.tup (ns.map D.int)] ∧ P (.bl (ns.any fun n => n != 0)) M
theorem sc_anyT {K : PySem.W.Frag} : SimC K (rAnyT K) oAnyT := by
  intro as L H M xs ds P Q A r ⟨ns, h, p⟩ q
  subst h
  cases r with
  | cons r1 r2 =>
    cases r2
    cases r1 with
    | tup hs ra =>
      have e := ra.ints
      subst e
      exact ⟨_, ns, rfl, ex_t A.low hs, q _ _ L H M .refl A p (.bl _)⟩
end Pd
set_option Elab.async false
set_option linter.all false
set_option maxRecDepth 100000
set_option maxHeartbeats 1000000
namespace Pd
open PySem PySem.Spec PyProof.Rows L2
theorem cmpback {P : Value → Shared → Prop} {z : V} {v : Value} {s' : Shared} (r : RelV z v) (h : P v s') : PySem.W.CmpBack P v s' := by
  cases z with
  | non => cases (show v = Value.none from r); exact h
  | bl b => cases (show v = Value.bool b from r); exact h
  | int i => obtain ⟨t, e⟩ := (show ∃ t, v = Value.int i t from r); cases e; exact h
  | str i => obtain ⟨t, e⟩ := (show ∃ t, v = Value.str i t from r); cases e; exact h
  | byt i => obtain ⟨t, e⟩ := (show ∃ t, v = Value.bytes i t from r); cases e; exact h
  | flt i => obtain ⟨t, e⟩ := (show ∃ t, v = Value.float i t from r); cases e; exact h
  | ref a => cases (show v = Value.ref a from r); exact h
  | ty n => cases (show v = Value.type n from r); exact h
section
variable {X : Cx} {k n : Nat} {C g : Addr} {fd : FuncData} {ps : List Str} {W : DC}
/-- a def called by the machine itself with two values -/
theorem run2 (F : FnOk X.prog X.w X.K X.mg X.base CX0 k g fd ps (spD n W X.K)) (hb : Binds X.K fd ps []) (hr : Room k X.A) {pins : List (Addr × Obj)} {σ : L2.St} {H : Hp} {s : Shared} {us : List Value} {vs : List V} {Q : VK} (I : Inv X pins σ H s) (r : Vals vs us) (h : spD n W X.K vs H Q E0) :
    wpAny (model X.prog X.w) X.A (call (.ref g) us) (EP X pins σ Q) X.xe s :=
  wpAny_call (run_fnR (F.raw hb .nil) hr pass0 I r (by rw [List.append_nil]; exact h))
def rOwnI (K : PySem.W.Frag) (C : Addr) (n : Nat) (W : DC) : R2 := fun x y H Q => ∃ a dx fs b dy gs, x = .ref a ∧ y = .ref b ∧ H a = some (.ins C dx fs) ∧ H b = some (.ins C dy gs) ∧ spD n W K [x, y] H Q E0
theorem op_ownI {op : Operator} (hc : PySem.W.selfFirst X.K C = true) (hs : PySem.W.findIn X.K (.ref C) (PySem.dunder op.info.2) = some (some (.ref g))) (hf : PySem.W.isFn X.K (.ref g) = true)
    (F : FnOk X.prog X.w X.K X.mg X.base CX0 k g fd ps (spD n W X.K)) (hb : Binds X.K fd ps []) (hr : Room k X.A) : OpR X (binaryOp op) (rOwnI X.K C n W) := by
  intro pins s σ H x y v u Q I rx ry h
  obtain ⟨a, dx, fs, b, dy, gs, rfl, rfl, ha, hb', q⟩ := h
  cases (show v = Value.ref a from rx)
  cases (show u = Value.ref b from ry)
  obtain ⟨mA, O, _⟩ := ins_get I.hok ha
  obtain ⟨od, J, _⟩ := O.look
  obtain ⟨mB, O', _⟩ := ins_get I.hok hb'
  obtain ⟨od', J', _⟩ := O'.look
  obtain ⟨m, hF⟩ := I.fr
  refine PySem.W.binop_K hF I.ok.mod.kin J J'.type hc hs hf ?_
  refine wpAny_mono (run2 (us := [.ref a, .ref b]) (vs := [.ref a, .ref b]) F hb hr I (.cons rfl (.cons rfl .nil)) q) (fun w s' z => ?_) fun _ _ x => x
  obtain ⟨z', H', I', rz, qz⟩ := z
  exact cmpback rz ⟨z', H', I', rz, qz⟩
@[simp] def oOwnI (C : Addr) (W : DC) : D2 := fun x y M P => ∃ fs gs, x = .ins C fs ∧ y = .ins C gs ∧ W [x, y] M P
theorem sp_of {K : PySem.W.Frag} {as : List Addr} {L H : Hp} {M : Ms} {vs : List V} {ds : List D} {P : D → Ms → Prop} {Q : VK} {E : XK} (A : At K as M L H) (r : RpA K as L vs ds) (hn : ds.length = n) (h : W ds M P)
    (q : ∀ v z L' H' M', Step as L H as L' H' → At K as M' L' H' → P z M' → Rp K as L' v z → Q v H') : spD n W K vs H Q E := ⟨by rw [r.length]; exact hn, as, M, L, ds, P, r, A, h, q⟩
theorem sr_ownI {K : PySem.W.Frag} : SimR K (rOwnI K C 2 W) (oOwnI C W) := by
  intro as L H M x y d e P Q A r1 r2 ⟨fs, gs, h1, h2, p⟩ q
  subst h1; subst h2
  have r1' := r1
  have r2' := r2
  cases r1 with
  | ins g1 _ =>
    cases r2 with
    | ins g2 _ => exact ⟨_, _, _, _, _, _, rfl, rfl, A.low _ _ g1, A.low _ _ g2, sp_of A (.cons r1' (.cons r2' .nil)) rfl p q⟩
/-- the other operand an int -/
def rOwnN (K : PySem.W.Frag) (C : Addr) (n : Nat) (W : DC) : R2 := fun x y H Q => ∃ a dx fs i, x = .ref a ∧ y = .int i ∧ H a = some (.ins C dx fs) ∧ spD n W K [x, y] H Q E0
theorem op_ownN {op : Operator} {fo ro rc : Option Value} (hc : PySem.W.selfFirst X.K C = true) (hs : PySem.W.findIn X.K (.ref C) (PySem.dunder op.info.2) = some (some (.ref g))) (hf : PySem.W.isFn X.K (.ref g) = true)
    (hr' : PySem.W.findIn X.K (.ref C) (PySem.dunderR op.info.2) = some rc) (hp : rc = none ∨ ∃ g : Addr, rc = some (.ref g)) (h1 : PySem.W.findIn X.K (.type "int") (PySem.dunder op.info.2) = some fo) (h2 : PySem.W.findIn X.K (.type "int") (PySem.dunderR op.info.2) = some ro) (hsub : PySem.W.subIn X.K (.type "int") (.ref C) = some false)
    (F : FnOk X.prog X.w X.K X.mg X.base CX0 k g fd ps (spD n W X.K)) (hb : Binds X.K fd ps []) (hr : Room k X.A) : OpR X (binaryOp op) (rOwnN X.K C n W) := by
  intro pins s σ H x y v u Q I rx ry h
  obtain ⟨a, dx, fs, i, rfl, rfl, ha, q⟩ := h
  cases (show v = Value.ref a from rx)
  obtain ⟨t, rfl⟩ := (show ∃ t, u = Value.int i t from ry)
  obtain ⟨mA, O, _⟩ := ins_get I.hok ha
  obtain ⟨od, J, _⟩ := O.look
  obtain ⟨m, hF⟩ := I.fr
  refine PySem.W.ksp_binT (T := "int") hF I.ok.mod.kin J rfl hc hs hf hr' hp h1 h2 hsub ?_
  refine wpAny_mono (run2 (us := [.ref a, .int i t]) (vs := [.ref a, .int i]) F hb hr I (.cons rfl (.cons ⟨t, rfl⟩ .nil)) q) (fun w s' z => ?_) fun _ _ x => x
  obtain ⟨z', H', I', rz, qz⟩ := z
  exact cmpback rz ⟨z', H', I', rz, qz⟩
@[simp] def oOwnN (C : Addr) (W : DC) : D2 := fun x y M P => ∃ fs i, x = .ins C fs ∧ y = .int i ∧ W [x, y] M P
theorem sr_ownN {K : PySem.W.Frag} : SimR K (rOwnN K C 2 W) (oOwnN C W) := by
  intro as L H M x y d e P Q A r1 r2 ⟨fs, i, h1, h2, p⟩ q
  subst h1; subst h2
  have r1' := r1
  have r2' := r2
  cases r2
  cases r1 with
  | ins g1 _ => exact ⟨_, _, _, _, rfl, rfl, A.low _ _ g1, sp_of A (.cons r1' (.cons r2' .nil)) rfl p q⟩
@[simp] def oOwnU (C : Addr) (W : DC) : D1 := fun x M P => ∃ fs, x = .ins C fs ∧ W [x] M P
/-- the type of a value that == may meet -/
inductive TyE (K : PySem.W.Frag) (H : Hp) : V → Value → Prop
  | non : TyE K H .non (.type "NoneType")
  | bl (b : Bool) : TyE K H (.bl b) (.type "bool")
  | int (i : Int) : TyE K H (.int i) (.type "int")
  | str (x : Str) : TyE K H (.str x) (.type "str")
  | lst {a : Addr} {xs : List V} : SqL K H a xs → TyE K H (.ref a) (.type "list")
  | tup {a : Addr} {xs : List V} : SqT K H a xs → TyE K H (.ref a) (.type "tuple")
  | ins {a C dx : Addr} {fs : List (Str × V)} : H a = some (.ins C dx fs) → TyE K H (.ref a) (.ref C)
  | dic {a : Addr} {kvs : List (Key × V)} : Rd H a (.dK kvs) → TyE K H (.ref a) (.type "dict")
  | dit {a : Addr} {kvs : List (List Key × V)} : Rd H a (.dT kvs) → TyE K H (.ref a) (.type "dict")
theorem TyE.looks {pins : List (Addr × Obj)} {σ : L2.St} {H : Hp} {s : Shared} {v : V} {u : Value} {t : Value} (I : Inv X pins σ H s) (h : TyE X.K H v t) (ru : RelV v u) : PySem.W.Looks (model X.prog X.w) s.heap (typeOf u) t := by
  cases h with
  | non => cases (show u = Value.none from ru); exact .now
  | bl b => cases (show u = Value.bool b from ru); exact .now
  | int b => obtain ⟨t, rfl⟩ := (show ∃ t, u = Value.int b t from ru); exact .now
  | str b => obtain ⟨t, rfl⟩ := (show ∃ t, u = Value.str b t from ru); exact .now
  | lst hs =>
    rename_i a xs
    cases (show u = Value.ref a from ru)
    obtain ⟨its, _, ⟨o, n, e, hc, _⟩, _⟩ := I.list hs
    exact hc ▸ (PySem.W.Looks.ld e).andThen .now
  | tup hs =>
    rename_i a xs
    cases (show u = Value.ref a from ru)
    obtain ⟨its, _, ⟨o, e, hc, _⟩, _⟩ := I.tuple hs
    exact hc ▸ (PySem.W.Looks.ld e).andThen .now
  | ins hs =>
    rename_i a _ _ _
    cases (show u = Value.ref a from ru)
    obtain ⟨mB, O', _⟩ := ins_get I.hok hs
    obtain ⟨od', J', _⟩ := O'.look
    exact J'.type
  | dic hs =>
    rename_i a kvs
    cases (show u = Value.ref a from ru)
    obtain ⟨_, _, _, _, o, _, _, e, hc, _⟩ := dk_rd I.hok hs
    exact hc.1 ▸ (PySem.W.Looks.ld e).andThen .now
  | dit hs =>
    rename_i a kvs
    cases (show u = Value.ref a from ru)
    obtain ⟨_, _, _, _, o, _, _, e, hc, _⟩ := dt_rd I.hok hs
    exact hc.1 ▸ (PySem.W.Looks.ld e).andThen .now
def rOwnE (K : PySem.W.Frag) (C : Addr) (n : Nat) (W : DC) : R2 := fun x y H Q => ∃ a dx fs t, x = .ref a ∧ H a = some (.ins C dx fs) ∧ TyE K H y t ∧ PySem.W.notFirst K C t = true ∧ spD n W K [x, y] H Q E0
theorem op_ownE (hs : PySem.W.findIn X.K (.ref C) "__eq__" = some (some (.ref g))) (hf : PySem.W.isFn X.K (.ref g) = true)
    (F : FnOk X.prog X.w X.K X.mg X.base CX0 k g fd ps (spD n W X.K)) (hb : Binds X.K fd ps []) (hr : Room k X.A) : OpR X (compareOp .Eq) (rOwnE X.K C n W) := by
  intro pins s σ H x y v u Q I rx ry h
  obtain ⟨a, dx, fs, t, rfl, ha, ht, hn, q⟩ := h
  cases (show v = Value.ref a from rx)
  obtain ⟨mA, O, _⟩ := ins_get I.hok ha
  obtain ⟨od, J, _⟩ := O.look
  obtain ⟨m, hF⟩ := I.fr
  show wpAny _ _ (richCompare .Eq _ _) _ _ _
  refine PySem.W.cmp_K (op := .Eq) (tb := t) hr.units0 hF I.ok.mod.kin J (ht.looks I ry) hn hs hf ?_
  refine wpAny_mono (run2 (us := [.ref a, u]) (vs := [.ref a, y]) F hb hr I (.cons rfl (.cons ry .nil)) q) (fun w s' z => ?_) fun _ _ x => x
  obtain ⟨z', H', I', rz, qz⟩ := z
  exact cmpback rz ⟨z', H', I', rz, qz⟩
theorem dtyE {K : PySem.W.Frag} {as : List Addr} {M : Ms} {L H : Hp} {v : V} {d : D} {t : Value} (A : At K as M L H) (r : Rp K as L v d) (h : DTy K d t) : TyE K H v t := by
  cases h with
  | non => cases r; exact .non
  | bl b => cases r; exact .bl b
  | int b => cases r; exact .int b
  | str b => cases r; exact .str b
  | lst ds => cases r with | lst hs _ => exact .lst (ex_l A.low hs)
  | tup ds => cases r with | tup hs _ => exact .tup (ex_t A.low hs)
  | ins h => cases r with | ins hs _ => exact .ins (A.low _ _ hs)
  | dic ks ds => cases r with | dic hs _ _ => exact .dic (ex_rd A.low (.inr hs))
  | tfz ns => cases r with | tfz h => obtain ⟨o, h, _⟩ := h; exact .tup (.inl (.inr ⟨o, A.low _ _ h⟩))
@[simp] def oOwnE (K : PySem.W.Frag) (C : Addr) (W : DC) : D2 := fun x y M P => ∃ fs t, x = .ins C fs ∧ DTy K y t ∧ PySem.W.notFirst K C t = true ∧ W [x, y] M P
theorem sr_ownE {K : PySem.W.Frag} : SimR K (rOwnE K C 2 W) (oOwnE K C W) := by
  intro as L H M x y d e P Q A r1 r2 ⟨fs, t, h1, h2, h3, p⟩ q
  subst h1
  have r1' := r1
  cases r1 with
  | ins g1 _ => exact ⟨_, _, _, t, rfl, A.low _ _ g1, dtyE A r2 h2, h3, sp_of A (.cons r1' (.cons r2 .nil)) rfl p q⟩
end
section
variable {X : Cx} {k n : Nat} {C g : Addr} {fd : FuncData} {ps : List Str} {W : DC} {e fe o value : Expr} {es : List Expr} {t tv : DE} {tl : DA} {pos pos' p apos : Pos}
@[simp] def dCallO (C : Addr) (n : Nat) (W : DC) (t : DE) (tl : DA) : DE := fun ρ M P => t ρ M fun x M1 => ∃ fs, x = .ins C fs ∧ tl ρ M1 fun ds M2 => ds.length + 1 = n ∧ W (x :: ds) M2 P
theorem pd_callO (hf : PD X fe t) (c : StX.CallO X.K C g) (F : FnOk X.prog X.w X.K X.mg X.base CX0 k g fd ps (spD n W X.K)) (hb : Binds X.K fd ps []) (hr : Room k X.A) (ha : PDA X (e :: es) tl)
    (ht : eval (.Call fe (e :: es) [] pos) X.env = (do callWith pos (← eval fe X.env) [] (backTo pos (starEach (e :: es) X.env)) (backToKw pos (keywordEach [] X.env))) := by rfl)
    (he : starEach (e :: es) X.env = (false, eval e X.env) :: starEach es X.env := by rfl) (hpl : (backTo pos (starEach es X.env)).any (·.1) = false := by rfl) : PD X (.Call fe (e :: es) [] pos) (dCallO C n W t tl) := by
  obtain ⟨u, pf, sf⟩ := hf.ex
  obtain ⟨ua, pa, sa⟩ := ha.ex
  refine ⟨_, StX.pe_callO pf c (F.raw hb .nil) hr (pass0 (X := X)) pa ht he hpl, ?_⟩
  intro as σ ρ L H M P Q hE A h q
  refine sf as σ ρ L H M _ _ hE A h fun v d L1 H1 M1 s1 A1 h1 r1 => ?_
  obtain ⟨fs, rfl, h1⟩ := h1
  have r0 := r1
  cases r1 with
  | ins g1 _ =>
    refine ⟨_, rfl, sa as σ ρ L1 H1 M1 _ _ (hE.mono s1.k s1.pre) A1 h1 fun vs ds L2 H2 M2 s2 A2 h2 r2 => ⟨.inr ⟨_, _, A2.low _ _ (s2.k _ _ g1)⟩, ?_⟩⟩
    have s12 := s1.trans A1 s2
    have q2 := sp_of (n := n) (W := W) (Q := Q) (E := E0) A2 (RpA.cons (r0.mono s2.k s2.pre) r2) (by rw [List.length_cons]; exact h2.1) h2.2 fun v z L3 H3 M3 s3 A3 h3 r3 => q v z L3 H3 M3 (s12.trans A2 s3) A3 h3 r3
    show spD n W X.K (V.ref _ :: vs ++ []) H2 Q E0
    rw [List.append_nil]
    exact q2
@[simp] def dSM (C : Addr) (n : Nat) (W : DC) (t : DE) (tl : DA) : DE := fun ρ M P => t ρ M fun x M1 => x = .ob C ∧ tl ρ M1 fun ds M2 => ds.length = n ∧ W ds M2 P
theorem pd_make {f : Addr} {x : Str} (M : Mk X.K C f) (F : FnOk X.prog X.w X.K X.mg X.base CX0 k f fd ps (spD n W X.K)) (hr : Room (k + 1) X.A) (hg : Gl X x) (hm : X.mg x = some (.ref C)) (hb : Binds X.K fd ps [])
    (ha : PDA X (e :: es) tl) (hdb : (x == ("__debug__" : Str)) = false := by decide) (he : starEach (e :: es) X.env = (false, eval e X.env) :: starEach es X.env := by rfl) (hpl : (backTo pos (starEach es X.env)).any (·.1) = false := by rfl) :
    PD X (.Call (.Name x p) (e :: es) [] pos) (dMake C n W tl) := by
  obtain ⟨ua, pa, sa⟩ := ha.ex
  exact ⟨_, pe_make M F hr hg hm hb .nil (pass0 (X := X)) pa hdb he hpl, sim_make sa⟩
def putD (f : Str) (v : D) : List (Str × D) → List (Str × D)
  | [] => [(f, v)]
  | (g, x) :: r => if g = f then (g, v) :: r else (g, x) :: putD f v r
theorem RpF.put {K : PySem.W.Frag} {as : List Addr} {L : Hp} {f : Str} {v : V} {d : D} (r : Rp K as L v d) : ∀ {fs : List (Str × V)} {gs : List (Str × D)}, RpF K as L fs gs → RpF K as L (putF f v fs) (putD f d gs)
  | _, _, .nil => .cons r .nil
  | _, _, .cons (f := g) (v := w) (fs := fs) (d := dd) (gs := gs) q t => by
    show RpF K as L (if g = f then (g, v) :: fs else (g, w) :: putF f v fs) (if g = f then (g, d) :: gs else (g, dd) :: putD f d gs)
    by_cases h : g = f
    · rw [if_pos h, if_pos h]; exact .cons r t
    · rw [if_neg h, if_neg h]; exact .cons q (RpF.put r t)
@[simp] def sFldM (K : PySem.W.Frag) (f : Str) (tv to : DE) : DS := fun De ρ M => tv ρ M fun v M1 => to ρ M1 fun x M2 => ∃ j C gs, x = .mu j ∧ M2[j]? = some (.ins C gs) ∧ Cls K C ∧ NoAttr K C f ∧ gs.length < 1000 ∧ De.nx ρ (M2.set j (.ins C (putD f v gs)))
theorem pds_fldM {f : Str} (hv : PD X value tv) (ho : PD X o t) (hs : swapsWith value (some (.Attribute o f pos')) pos.line X.env = pure false := by rfl) : PDS X (.Assign [.Attribute o f pos'] value pos) (sFldM X.K f tv t) := by
  obtain ⟨u, p1, s1⟩ := hv.ex
  obtain ⟨u2, p2, s2⟩ := ho.ex
  refine ⟨_, ps_fld p2 p1 hs, ?_⟩
  intro as σ ρ L H M De D hE A h c
  refine s1 as σ ρ L H M _ _ hE A h fun v d L1 H1 M1 t1 A1 h1 r1 => ?_
  refine s2 as σ ρ L1 H1 M1 _ _ (hE.mono t1.k t1.pre) A1 h1 fun x d2 L2 H2 M2 t2 A2 h2 r2 => ?_
  obtain ⟨j, C, gs, rfl, hm, hc, hn, hl, p⟩ := h2
  cases r2 with
  | mu hk =>
    obtain ⟨dx, fs, g1, g2⟩ := A2.ins hk hm
    refine ⟨_, C, dx, fs, rfl, g1, hc, hn, by rw [g2.length]; exact hl, ?_⟩
    exact c.nx σ ρ L2 _ _ ((t1.trans A1 t2).trans A2 (Step.put (List.mem_of_getElem? hk))) (A2.put hk (.ins (g2.put (r1.mono t2.k t2.pre)))) (hE.mono (t1.k.trans t2.k) (Pre.refl _)) p
end
end Pd
set_option Elab.async false
set_option linter.all false
set_option maxRecDepth 100000
set_option maxHeartbeats 1000000
namespace Pd
open PySem PySem.Spec PyProof.Rows L2
def rCatL (K : PySem.W.Frag) : R2 := fun x y H Q => ∃ l b xs zs, x = .ref l ∧ y = .ref b ∧ SqL K H l xs ∧ SqL K H b zs ∧ xs.length + zs.length ≤ sizeLine ∧ ∀ p, H p = none → Q (.ref p) (upd H p (.lst (xs ++ zs)))
theorem op_catL {X : Cx} : OpR X (binaryOp .Add) (rCatL X.K) := by
  intro pins s σ H x y v u Q I rx ry h
  obtain ⟨l, b, xs, zs, rfl, rfl, hH, hB, hz, q⟩ := h
  cases rx
  cases ry
  obtain ⟨its, r, ⟨⟨cls, dd, data, sl⟩, n, ho, hc, hdn, hd⟩, _⟩ := I.list hH
  obtain ⟨its2, r2, ⟨⟨cls2, dd2, data2, sl2⟩, n2, ho2, hc2, hdn2, hd2⟩, _⟩ := I.list hB
  simp only at hc hd hc2 hd2
  subst hc hd hc2 hd2
  have e : its.toArray ++ its2.toArray = (its ++ its2).toArray := by simp
  have h1 := r.length
  have h2 := r2.length
  refine concat_meets ⟨_, ho, rfl⟩ ⟨_, ho2, rfl⟩ noFill_list_add seq_list_add PySem.F.slot_list_add PySem.F.entry_list_add (PySem.F.args_list_add_2 _ _) (list_addW l b its.toArray its2.toArray n n2 dd dd2 sl sl2 (by simp only [List.size_toArray]; omega)) ⟨ho, ho2, ?_⟩
  rw [e]
  exact ⟨.ref _, _, I.lnew (t' := s.toks) (r.append r2) (by rw [List.length_append]; omega), rfl, q _ I.fresh⟩
@[simp] def oCatL : D2 := fun x y M P => ∃ ds es, x = .lst ds ∧ y = .lst es ∧ ds.length + es.length ≤ sizeLine ∧ P (.lst (ds ++ es)) M
theorem sr_catL {K : PySem.W.Frag} : SimR K (rCatL K) oCatL := by
  intro as L H M x y d e P Q A r1 r2 ⟨ds, es, h1, h2, h3, p⟩ q
  subst h1; subst h2
  cases r1 with
  | lst g1 w1 =>
    cases r2 with
    | lst g2 w2 => exact ⟨_, _, _, _, rfl, rfl, ex_l A.low g1, ex_l A.low g2, by rw [w1.length, w2.length]; exact h3, fun p' hp => q _ _ _ _ M (Step.know A hp) (A.know hp) p (.lst (.inl (.inl upd_same)) ((w1.append w2).mono (Ex.new (lowfree A hp)) (Pre.refl _)))⟩
@[simp] def oCatT : D2 := fun x y M P => ∃ ds es, x = .tup ds ∧ y = .tup es ∧ ds.length + es.length ≤ sizeLine ∧ P (.tup (ds ++ es)) M
theorem sr_catT {K : PySem.W.Frag} : SimR K (rCatA K) oCatT := by
  intro as L H M x y d e P Q A r1 r2 ⟨ds, es, h1, h2, h3, p⟩ q
  subst h1; subst h2
  cases r1 with
  | tup g1 w1 =>
    cases r2 with
    | tup g2 w2 =>
      refine ⟨_, _, _, _, rfl, rfl, ex_t A.low g1, ex_t A.low g2, by rw [w1.length, w2.length]; exact h3, fun e => ?_, fun e1 e2 => ?_, fun e1 e2 p' hp => ?_⟩
      · subst e
        cases w1
        exact q _ _ L H M .refl A p (.tup g2 w2)
      · subst e2
        cases w2
        rw [List.append_nil] at p
        exact q _ _ L H M .refl A p (.tup g1 w1)
      · exact q _ _ _ _ M (Step.know A hp) (A.know hp) p (.tup (.inl (.inl upd_same)) ((w1.append w2).mono (Ex.new (lowfree A hp)) (Pre.refl _)))
/-- once: the tuple itself -/
theorem tuple_mul1 (l : Addr) (items : Array Value) (n : Nat) (dd : Option Addr) (sl : Array (Option Value)) (u : Tok) :
    Meets (Builtin.«tuple.__mul__» ⟨[.ref l, .int 1 u], []⟩) (fun _ R s => s.heap.get? l = some { cls := .type "tuple", dict := dd, data := .seq items n, slots := sl } ∧ R (.ok (.ret (Value.ref l))) s) :=
  .of_wp fun prog w A R s h => by
    obtain ⟨hp, g, d, tk, os⟩ := s
    obtain ⟨hl, h⟩ := h
    have f1 := AutoSeq1.idx_int
    wp_walk using wpAny_loadPart' hl
    repeat (first
      | (refine wpAny_ite_false (decide_eq_false (by decide)) ?_; wp_walk using wpAny_loadPart' hl)
      | (refine wpAny_ite_true (decide_eq_true (by simp)) ?_; wp_walk using wpAny_loadPart' hl))
    exact ⟨_, rfl, h⟩
def rRepA (K : PySem.W.Frag) : R2 := fun x y H Q => ∃ l k xs, x = .ref l ∧ y = .int k ∧ SqT K H l xs ∧ xs ≠ [] ∧ 1 ≤ k ∧ k ≤ 1000 ∧ xs.length ≤ 1000 ∧ (k = 1 → Q (.ref l) H) ∧ (2 ≤ k → ∀ p, H p = none → Q (.ref p) (upd H p (.tup (List.replicate k.toNat xs).flatten)))
theorem op_repA {X : Cx} : OpR X (binaryOp .Mult) (rRepA X.K) := by
  intro pins s σ H x y v u Q I rx ry h
  obtain ⟨l, k, xs, rfl, rfl, hT, hne, h1, h2, hz, q1, q2⟩ := h
  by_cases hk : k = 1
  · subst hk
    cases rx
    obtain ⟨t, rfl⟩ := ry
    obtain ⟨its, r, ⟨⟨cls, dd, data, sl⟩, ho, hc, n, hd⟩, hs⟩ := I.tuple hT
    simp only at hc hd
    subst hc hd
    refine wpAny_binaryOp_repeat_ref (T := "tuple") (U := "int") (by decide) ⟨_, ho, rfl⟩ (fun s' => typeIs_int s' 1 t) noFill_tuple_mul F.fills_int_mul F.slot_int_rmul repeat_tuple F.slot_int_index.lookup
      (call_meets F.slot_int_rmul (typeIs_int s 1 t) F.entry_int_rmul (F.args_int_rmul_2 _ _) (int_rmul_tuple 1 t l its.toArray n dd sl)
        ⟨ho, rfl, ⟨_, ho, rfl⟩, call_meets F.slot_tuple_mul ⟨_, ho, rfl⟩ F.entry_tuple_mul (F.args_tuple_mul_2 _ _) (tuple_mul1 l its.toArray n dd sl t) ⟨ho, ?_⟩⟩)
    exact ⟨.ref l, H, I, rfl, q1 rfl⟩
  · exact op_repT pins s σ H _ _ v u Q I rx ry ⟨l, k, xs, rfl, rfl, hT, hne, by omega, h2, hz, q2 (by omega)⟩
@[simp] def oRepT : D2 := fun x y M P => ∃ (ds : List D) (k : Int), x = .tup ds ∧ y = .int k ∧ ds ≠ [] ∧ 1 ≤ k ∧ k ≤ 1000 ∧ ds.length ≤ 1000 ∧ P (.tup (List.replicate k.toNat ds).flatten) M
theorem RpA.rep {K : PySem.W.Frag} {as : List Addr} {L : Hp} {xs : List V} {ds : List D} (r : RpA K as L xs ds) : ∀ n : Nat, RpA K as L (List.replicate n xs).flatten (List.replicate n ds).flatten
  | 0 => .nil
  | n + 1 => by
    rw [List.replicate_succ, List.replicate_succ, List.flatten_cons, List.flatten_cons]
    exact r.append (RpA.rep r n)
theorem sr_repT {K : PySem.W.Frag} : SimR K (rRepA K) oRepT := by
  intro as L H M x y d e P Q A r1 r2 ⟨ds, k, h1, h2, hne, hk1, hk2, hl, p⟩ q
  subst h1; subst h2
  cases r2
  cases r1 with
  | tup g1 w1 =>
    refine ⟨_, k, _, rfl, rfl, ex_t A.low g1, fun e => hne (by subst e; cases w1 <;> rfl), hk1, hk2, by rw [w1.length]; exact hl, fun e => ?_, fun _ p' hp => ?_⟩
    · subst e
      have e1 : (List.replicate (1 : Int).toNat ds).flatten = ds := by simp
      rw [e1] at p
      exact q _ _ L H M .refl A p (.tup g1 w1)
    · exact q _ _ _ _ M (Step.know A hp) (A.know hp) p (.tup (.inl (.inl upd_same)) ((w1.rep _).mono (Ex.new (lowfree A hp)) (Pre.refl _)))
section
variable {X : Cx} {k n : Nat} {C g : Addr} {fd : FuncData} {ps : List Str} {W : DC}
@[simp] def oOwnNe (K : PySem.W.Frag) (C : Addr) (W : DC) : D2 := fun x y M P => ∃ fs t, x = .ins C fs ∧ DTy K y t ∧ PySem.W.notFirst K C t = true ∧ W [x, y] M fun z M' => ∃ b, z = .bl b ∧ P (.bl (!b)) M'
end
end Pd
set_option Elab.async false
set_option linter.all false
set_option maxRecDepth 100000
set_option maxHeartbeats 1000000
namespace Pd
open PySem PySem.Spec PyProof.Rows L2
theorem zip_no_len : typeLookup (.type "zip") "__len__" = pure none := by rw [typeLookup_type, builtinLookup_eq_fast]; kernel_rfl
theorem zip_no_hint : typeLookup (.type "zip") "__length_hint__" = pure none := by rw [typeLookup_type, builtinLookup_eq_fast]; kernel_rfl
section
variable {prog : Program} {w : World} {A : Around} {E : Value → Shared → Prop} {s : Shared} {z TI TO i1 i2 : Addr} {fp1 fp2 : List Addr} {n1 n2 i : Nat} {P1 P2 : Nat → Value → Prop} {St1 St2 : Nat → Heap → Prop} {T : Addr} {f : Bool} {oT : Obj}
theorem zipH_item {Q : Value → Shared → Prop} (S : ZipSep2 z TI TO i1 i2 fp1 fp2) (D1 : Draws prog w A i1 fp1 n1 P1 St1) (D2 : Draws prog w A i2 fp2 n2 P2 St2)
    (hz : IsZipHeld s.heap z TI TO T f) (hT : s.heap.get? T = some oT) (hTI : IsTupOf2 s.heap TI (.ref i1) (.ref i2)) (st1 : St1 i s.heap) (st2 : St2 i s.heap) (hlt1 : i < n1) (hlt2 : i < n2)
    (hQ : ∀ x1 x2 h' tk, P1 i x1 → P2 i x2 → IsZipHeld h' z TI TO T true → St1 (i + 1) h' → St2 (i + 1) h' → IsTupOf2 h' s.heap.objs.size x1 x2 → h'.objs.size = s.heap.objs.size + 1 →
      (∀ c o, c ≠ z → c ≠ i1 → c ≠ i2 → s.heap.get? c = some o → h'.get? c = some o) → Q (.ref s.heap.objs.size) { s with heap := h', toks := tk }) :
    wpAny (model prog w) A (Builtin.«zip.__next__» ⟨[.ref z], []⟩) (fun fin s' => ∃ v, fin = .done (.ret v) ∧ Q v s') E s := by
  obtain ⟨hp, g, d, tk0, os⟩ := s
  show wpAny _ _ (field (.ref z) 2 >>= _) _ _ _
  refine wpAny_bind (wpAny_field hz rfl (x := .bool false) rfl ?_)
  show wpAny _ _ (field (.ref z) 3 >>= _) _ _ _
  refine wpAny_bind (wpAny_field hz rfl (x := .ref TI) rfl ?_)
  refine wpAny_bind (wpAny_seqItems hTI rfl ?_)
  show wpAny _ _ (Builtin.SmallTypes.ownedTupleIsFree (.ref z) >>= _) _ _ _
  refine wpAny_bind (wpAny_tupleHeld_zip hz hT fun g0 hz0 hs0 => ?_)
  replace hs0 : Heap.SameBut z hp g0 := hs0
  simp only [Bool.false_eq_true, if_false]
  refine wpAny_bind ?_
  rw [← Array.forIn_toList]
  simp only [List.forIn_cons, List.forIn_nil]
  refine wpAny_bind (wpAny_bind (wpAny_holding ?_))
  show wpAny _ _ (Builtin.SmallTypes.nextOf (.ref i1) >>= _) _ _ ⟨g0, g, d, tk0, os⟩
  refine wpAny_bind (D1.item i _ _ _ hlt1 (D1.over st1 hs0 S.zf1) fun x1 p1 tk1 hx1 sn1 hp1 => wpAny_pure ?_)
  replace hp1 : Heap.SameBut i1 g0 p1 := hp1
  refine wpAny_pure ?_
  refine wpAny_bind (wpAny_bind (wpAny_holding ?_))
  show wpAny _ _ (Builtin.SmallTypes.nextOf (.ref i2) >>= _) _ _ ⟨p1, g, d, tk1, os⟩
  refine wpAny_bind (D2.item i _ _ _ hlt2 (D2.over (D2.over st2 hs0 S.zf2) hp1 S.sep1_2) fun x2 p2 tk2 hx2 sn2 hp2 => wpAny_pure ?_)
  replace hp2 : Heap.SameBut i2 p1 p2 := hp2
  refine wpAny_pure (wpAny_pure ?_)
  show wpAny _ _ (newTuple [x1, x2] >>= _) _ _ _
  refine wpAny_bind (wpAny_newTuple ?_)
  have hsz : p2.objs.size = hp.objs.size := by rw [hp2.1, hp1.1, hs0.1]
  have hz₃ : IsZipHeld p2 z TI TO T true := hp2.extBut _ _ S.zi2 (hp1.extBut _ _ S.zi1 hz0)
  have hk : ∀ c o, c ≠ z → c ≠ i1 → c ≠ i2 → hp.get? c = some o → p2.get? c = some o := fun c o c1 c2 c3 e => hp2.extBut _ _ c3 (hp1.extBut _ _ c2 (hs0.extBut _ _ c1 e))
  have hj1 : St1 (i + 1) p2 := D1.over sn1 hp2 S.sep2_1
  refine wpAny_pure ⟨_, rfl, ?_⟩
  show Q (.ref p2.objs.size) ⟨p2.push { cls := .type "tuple", data := .seq #[x1, x2] }, g, d, tk2, os⟩
  have hq : IsTupOf2 (p2.push { cls := .type "tuple", data := .seq #[x1, x2] }) p2.objs.size x1 x2 := Heap.get?_push_size _ rfl
  have hz4 : (p2.push { cls := .type "tuple", data := .seq #[x1, x2] }).objs.size = p2.objs.size + 1 := Heap.size_push ..
  have up : ∀ c o, p2.get? c = some o → (p2.push { cls := .type "tuple", data := .seq #[x1, x2] }).get? c = some o := fun c o e => Heap.get?_push_of_some _ e
  rw [hsz] at hq hz4 ⊢
  exact hQ x1 x2 _ tk2 hx1 hx2 (up _ _ hz₃) (D1.frame _ _ _ hj1 fun b _ o e => up b o e) (D2.frame _ _ _ sn2 fun b _ o e => up b o e) hq hz4 fun c o c1 c2 c3 e => up c o (hk c o c1 c2 c3 e)
theorem zipH_end {Q : Fin → Shared → Prop} (S : ZipSep2 z TI TO i1 i2 fp1 fp2) (D1 : Draws prog w A i1 fp1 n1 P1 St1) (D2 : Draws prog w A i2 fp2 n2 P2 St2)
    (hz : IsZipHeld s.heap z TI TO T f) (hT : s.heap.get? T = some oT) (hTI : IsTupOf2 s.heap TI (.ref i1) (.ref i2)) (st1 : St1 i s.heap) (st2 : St2 i s.heap) (hle1 : i ≤ n1) (hle2 : i ≤ n2) (hend : i = n1 ∨ i = n2)
    (hE : ∀ h' tk e, (∀ c o, c ≠ z → c ≠ i1 → c ≠ i2 → s.heap.get? c = some o → h'.get? c = some o) → (∃ o, h'.get? e = some o ∧ o.cls = .type "StopIteration") → E (.ref e) { s with heap := h', toks := tk }) :
    wpAny (model prog w) A (Builtin.«zip.__next__» ⟨[.ref z], []⟩) Q E s := by
  obtain ⟨hp, g, d, tk0, os⟩ := s
  show wpAny _ _ (field (.ref z) 2 >>= _) _ _ _
  refine wpAny_bind (wpAny_field hz rfl (x := .bool false) rfl ?_)
  show wpAny _ _ (field (.ref z) 3 >>= _) _ _ _
  refine wpAny_bind (wpAny_field hz rfl (x := .ref TI) rfl ?_)
  refine wpAny_bind (wpAny_seqItems hTI rfl ?_)
  show wpAny _ _ (Builtin.SmallTypes.ownedTupleIsFree (.ref z) >>= _) _ _ _
  refine wpAny_bind (wpAny_tupleHeld_zip hz hT fun g0 hz0 hs0 => ?_)
  replace hs0 : Heap.SameBut z hp g0 := hs0
  simp only [Bool.false_eq_true, if_false]
  refine wpAny_bind ?_
  rw [← Array.forIn_toList]
  simp only [List.forIn_cons, List.forIn_nil]
  refine wpAny_bind (wpAny_bind (wpAny_holding ?_))
  show wpAny _ _ (Builtin.SmallTypes.nextOf (.ref i1) >>= _) _ _ ⟨g0, g, d, tk0, os⟩
  by_cases hlt1 : i < n1
  · refine wpAny_bind (D1.item i _ _ _ hlt1 (D1.over st1 hs0 S.zf1) fun x1 p1 tk1 hx1 sn1 hp1 => wpAny_pure ?_)
    replace hp1 : Heap.SameBut i1 g0 p1 := hp1
    refine wpAny_pure ?_
    have hi2 : i = n2 := by omega
    refine wpAny_bind (wpAny_bind (wpAny_holding ?_))
    show wpAny _ _ (Builtin.SmallTypes.nextOf (.ref i2) >>= _) _ _ ⟨p1, g, d, tk1, os⟩
    refine wpAny_bind (D2.done ⟨p1, g, d, tk1, os⟩ _ _ (by rw [← hi2]; exact (D2.over (D2.over st2 hs0 S.zf2) hp1 S.sep1_2)) fun q e hq he => ?_)
    exact hE q tk1 e (fun c o cz c1 c2 x => hq _ _ c2 (hp1.extBut _ _ c1 (hs0.extBut _ _ cz x))) he
  · have hi1 : i = n1 := by omega
    refine wpAny_bind (D1.done ⟨g0, g, d, tk0, os⟩ _ _ (by rw [← hi1]; exact (D1.over st1 hs0 S.zf1)) fun q e hq he => ?_)
    exact hE q tk0 e (fun c o cz c1 c2 x => hq _ _ c1 (hs0.extBut _ _ cz x)) he
/-- a zip, fresh or with a pair that is held -/
def ZSt (h : Heap) (L : Addr → Prop) (z TI TO i1 i2 : Addr) : Prop := IsTupOf2 h TI (.ref i1) (.ref i2) ∧ (∃ a b, IsTupOf2 h TO a b) ∧ (IsZip h z TI TO .none ∨ ∃ T f, IsZipHeld h z TI TO T f ∧ L T)
theorem zl_item {L : Addr → Prop} {Q : Option Value → Shared → Prop} (S : ZipSep2 z TI TO i1 i2 fp1 fp2) (D1 : Draws prog w A.in1 i1 fp1 n1 P1 St1) (D2 : Draws prog w A.in1 i2 fp2 n2 P2 St2)
    (hz : ZSt s.heap L z TI TO i1 i2) (hL : ∀ T, L T → ∃ o, s.heap.get? T = some o) (st1 : St1 i s.heap) (st2 : St2 i s.heap) (hlt1 : i < n1) (hlt2 : i < n2)
    (hQ : ∀ x1 x2 h' tk, P1 i x1 → P2 i x2 → ZSt h' (fun T => L T ∨ T = s.heap.objs.size) z TI TO i1 i2 → St1 (i + 1) h' → St2 (i + 1) h' → IsTupOf2 h' s.heap.objs.size x1 x2 → h'.objs.size = s.heap.objs.size + 1 →
      (∀ c o, c ≠ z → c ≠ TO → c ≠ i1 → c ≠ i2 → s.heap.get? c = some o → h'.get? c = some o) → Q (some (.ref s.heap.objs.size)) { s with heap := h', toks := tk }) :
    wpAny (model prog w) A (pyNext (.ref z)) Q E s := by
  obtain ⟨hTI, ⟨a0, b0, hTO⟩, hz⟩ := hz
  rcases hz with hz | ⟨T, f, hz, hT⟩
  · refine wpAny_pyNext_zipD2_item S D1 D2 hz hTI hTO st1 st2 hlt1 hlt2 fun x1 x2 h' tk y1 y2 b1 b2 d1 d2 b5 b6 hk => ?_
    exact hQ x1 x2 h' tk y1 y2 ⟨hk _ _ S.TIz S.TITO S.TIi1 S.TIi2 hTI, ⟨_, _, b2⟩, .inr ⟨_, false, b1, .inr rfl⟩⟩ d1 d2 b5 b6 hk
  · obtain ⟨oT, hoT⟩ := hL T hT
    have hTy : s.TypeIs (.ref z) "zip" := ⟨_, hz, rfl⟩
    unfold pyNext
    exact wpAny_bind (wpAny_attempt (wpAny_callSpecial?_slot (name := Str.ofString "__next__") hTy F.slot_zip_next
      (wpAny_call_entry F.slot_zip_next hTy F.entry_zip_next
        (zipH_item S D1 D2 hz hoT hTI st1 st2 hlt1 hlt2 fun x1 x2 h' tk y1 y2 b1 d1 d2 b5 b6 hk => wpAny_pure (hQ x1 x2 h' tk y1 y2 ⟨hk _ _ S.TIz S.TIi1 S.TIi2 hTI, ⟨_, _, hk _ _ S.TOz S.Ti1 S.Ti2 hTO⟩, .inr ⟨_, _, b1, .inl hT⟩⟩ d1 d2 b5 b6 fun c o c1 _ c3 c4 e => hk c o c1 c3 c4 e)) (F.args_zip_next_1 _))))
theorem zl_end {L : Addr → Prop} {Q : Option Value → Shared → Prop} (S : ZipSep2 z TI TO i1 i2 fp1 fp2) (D1 : Draws prog w A.in1 i1 fp1 n1 P1 St1) (D2 : Draws prog w A.in1 i2 fp2 n2 P2 St2)
    (hz : ZSt s.heap L z TI TO i1 i2) (hL : ∀ T, L T → ∃ o, s.heap.get? T = some o) (st1 : St1 i s.heap) (st2 : St2 i s.heap) (hle1 : i ≤ n1) (hle2 : i ≤ n2) (hend : i = n1 ∨ i = n2)
    (hQ : ∀ h' tk, (∀ c o, c ≠ z → c ≠ TO → c ≠ i1 → c ≠ i2 → s.heap.get? c = some o → h'.get? c = some o) → Q none { s with heap := h', toks := tk }) : wpAny (model prog w) A (pyNext (.ref z)) Q E s := by
  obtain ⟨hTI, ⟨a0, b0, hTO⟩, hz⟩ := hz
  rcases hz with hz | ⟨T, f, hz, hT⟩
  · exact wpAny_pyNext_zipD2_end S D1 D2 hz hTI hTO st1 st2 hle1 hle2 hend hQ
  · obtain ⟨oT, hoT⟩ := hL T hT
    have hTy : s.TypeIs (.ref z) "zip" := ⟨_, hz, rfl⟩
    unfold pyNext
    refine wpAny_bind (wpAny_attempt (wpAny_callSpecial?_slot (name := Str.ofString "__next__") hTy F.slot_zip_next
      (wpAny_call_entry F.slot_zip_next hTy F.entry_zip_next (zipH_end S D1 D2 hz hoT hTI st1 st2 hle1 hle2 hend fun h' tk e hk he => ?_) (F.args_zip_next_1 _))))
    obtain ⟨o, ho, hc⟩ := he
    refine wpAny_bind (wpAny_isInstance (T := "StopIteration") (b := true) ⟨o, ho, hc⟩ isSubtype_stop ?_)
    exact wpAny_pure (hQ _ _ fun c o c1 _ c3 c4 e => hk c o c1 c3 c4 e)
theorem zl_hint {b : Value} {Q : Bool → Shared → Prop} (hT : s.TypeIs (.ref z) "zip") (h : Q true s) : wpAny (model prog w) A (Builtin.List.listLengthHint (.ref z)) Q E s := by
  unfold Builtin.List.listLengthHint
  refine wpAny_bind (wpAny_specialOf hT zip_no_len ?_)
  show wpAny _ _ (specialOf (Value.ref z) (Str.ofString "__length_hint__") >>= _) _ _ _
  refine wpAny_bind (wpAny_specialOf hT zip_no_hint ?_)
  exact wpAny_pure h
end
end Pd
set_option Elab.async false
set_option linter.all false
set_option maxRecDepth 100000
set_option maxHeartbeats 1000000
namespace Pd
open PySem PySem.Spec PyProof.Rows L2
/-- the pairs that a list holds -/
def PairsIn (H : Hp) (ts xs ys : List V) : Prop := ∀ (j : Nat) (t : V), ts[j]? = some t → ∃ T x y, t = .ref T ∧ H T = some (.tup [x, y]) ∧ xs[j]? = some x ∧ ys[j]? = some y
theorem PairsIn.up {H H' : Hp} {ts xs ys : List V} (h : PairsIn H ts xs ys) (k : ∀ c xs, H c = some (.tup xs) → H' c = some (.tup xs)) : PairsIn H' ts xs ys := fun j t e =>
  let ⟨T, x, y, h1, h2, h3, h4⟩ := h j t e
  ⟨T, x, y, h1, k _ _ h2, h3, h4⟩
section
variable {X : Cx} {pins : List (Addr × Obj)} {σ : L2.St}
def fpz (z TI TO i1 i2 : Addr) : List Addr := [z, TI, TO, i1, i2]
theorem zl_loop {A : Around} (hh : A.handled = none) (ka kb : Kd) {a b z TI TO i1 i2 S : Addr} (D : ZipApart z TI TO i1 i2 a b) {its its2 : List Value} {xs ys : List V} (rv : Vals xs its) (rv2 : Vals ys its2) {res : Value} {R : Result → Shared → Prop} {H0 : Hp} (hS0 : H0 S = none)
    (hsz : xs.length ≤ sizeLine) (nSa : S ≠ a) (nSb : S ≠ b)
    (fin : ∀ H' ts s', Inv X pins σ H' s' → (∀ c o, H0 c = some o → H' c = some o) → H' S = some (.lst ts) → ts.length = min xs.length ys.length → PairsIn H' ts xs ys → (∀ t ∈ ts, ∀ T, t = .ref T → H0 T = none) → R (.ok (.ret res)) s') :
    ∀ (m i : Nat) (H : Hp) (s : Shared) (ts : List V), min xs.length ys.length - i = m → i ≤ min xs.length ys.length → Inv X pins σ H s → (∀ c ∈ fpz z TI TO i1 i2, FpOk X pins H c) → ZSt s.heap (fun T => ∃ u, H T = some (.tup u)) z TI TO i1 i2 →
      IterK ka s.heap i1 a i → SeqAtK ka s.heap a its.toArray → IterK kb s.heap i2 b i → SeqAtK kb s.heap b its2.toArray → (∀ c o, H0 c = some o → H c = some o) → H S = some (.lst ts) → ts.length = i → PairsIn H ts xs ys → (∀ t ∈ ts, ∀ T, t = .ref T → H0 T = none) →
      codeAny (model X.prog X.w) A (.builtin "list.extend.loop" ⟨[.ref S, .ref z, res], []⟩) R s := by
  have l1 := rv.length
  have l2 := rv2.length
  have dz := zsep D
  intro m
  induction m with
  | zero =>
    intro i H s ts hm hi I fo zs h1 q1 h2 q2 up hS hl hp hf0
    have hin : i = min xs.length ys.length := by omega
    refine codeAny_builtin F.entry_extend_loop ?_
    rw [Around.under_plainId F.plain_extend_loop _]
    show wpAny _ A.in1 (pyNext (.ref z) >>= _) _ _ s
    refine wpAny_bind (zl_end (i := i) dz (drawsK ka (A := A.in1.in1) hh i1 a D.l1i1 its.toArray) (drawsK kb (A := A.in1.in1) hh i2 b D.l2i2 its2.toArray) zs (fun T ⟨u, hu⟩ => ?_) ⟨h1, q1⟩ ⟨h2, q2⟩ (by simp; omega) (by simp; omega) (by simp; omega) fun h' tk hk => ?_)
    · obtain ⟨_, _, _, _, e, _⟩ := I.hok T _ hu
      exact ⟨_, e⟩
    · exact wpAny_pure (fin H ts _ (I.turnedL (t' := tk) (ch := fpz z TI TO i1 i2) (fun c o hb q => hk c o (fun q' => hb (by simp [q', fpz])) (fun q' => hb (by simp [q', fpz])) (fun q' => hb (by simp [q', fpz])) (fun q' => hb (by simp [q', fpz])) q) fo) up hS (by omega) hp hf0)
  | succ m ih =>
    intro i H s ts hm hi I fo zs h1 q1 h2 q2 up hS hl hp hf0
    have hi1 : i < its.toArray.size := by simp; omega
    have hi2 : i < its2.toArray.size := by simp; omega
    have hx : i < xs.length := by omega
    have hy : i < ys.length := by omega
    refine codeAny_builtin F.entry_extend_loop ?_
    rw [Around.under_plainId F.plain_extend_loop _]
    show wpAny _ A.in1 (pyNext (.ref z) >>= _) _ _ s
    refine wpAny_bind (zl_item (i := i) dz (drawsK ka (A := A.in1.in1) hh i1 a D.l1i1 its.toArray) (drawsK kb (A := A.in1.in1) hh i2 b D.l2i2 its2.toArray) zs (fun T ⟨u, hu⟩ => ?_) ⟨h1, q1⟩ ⟨h2, q2⟩ hi1 hi2 fun x1 x2 h' tk g1 g2 zs' st1 st2 hT hsz' hk => ?_)
    · obtain ⟨_, _, _, _, e, _⟩ := I.hok T _ hu
      exact ⟨_, e⟩
    obtain ⟨u, hu, ru⟩ := rv.get (i := i) (x := xs[i]) (List.getElem?_eq_getElem hx)
    obtain ⟨u2, hu2, ru2⟩ := rv2.get (i := i) (x := ys[i]) (List.getElem?_eq_getElem hy)
    have e1 : x1 = u := by
      have g1' : its[i]? = some x1 := by simpa using g1
      rw [hu] at g1'; exact (Option.some.inj g1').symm
    have e2 : x2 = u2 := by
      have g2' : its2[i]? = some x2 := by simpa using g2
      rw [hu2] at g2'; exact (Option.some.inj g2').symm
    subst e1; subst e2
    have new : ObjOk X.prog X.w (upd H s.heap.objs.size (.tup [xs[i], ys[i]])) h' s.heap.objs.size (.tup [xs[i], ys[i]]) :=
      ⟨by show 2 ≤ sizeLine; decide, [x1, x2], .cons ru (.cons ru2 .nil), ⟨_, hT, rfl, _, rfl⟩⟩
    have hTn : H s.heap.objs.size = none := I.hok.fresh (Nat.le_refl _)
    have I1 : Inv X pins σ (upd H s.heap.objs.size (.tup [xs[i], ys[i]])) { s with heap := h', toks := tk } :=
      I.turnedNew (t' := tk) (ch := fpz z TI TO i1 i2) (fun c o hb q => hk c o (fun q' => hb (by simp [q', fpz])) (fun q' => hb (by simp [q', fpz])) (fun q' => hb (by simp [q', fpz])) (fun q' => hb (by simp [q', fpz])) q) fo (Nat.le_refl _) new
    have nST : S ≠ s.heap.objs.size := ne_of_none hS hTn
    have hS1 : upd H s.heap.objs.size (.tup [xs[i], ys[i]]) S = some (.lst ts) := by rw [upd_ne nST]; exact hS
    obtain ⟨zl, itt, nn, rt, lt, et⟩ := I1.lstM hS1
    show wpAny _ A.in1 (updateSeq S (·.push (.ref s.heap.objs.size)) >>= _) _ _ _
    refine wpAny_bind ?_
    have hlts : itt.length = i := by rw [← lt]; exact hl
    refine wpAny_updateSeq et rfl (wpAny_pure ⟨plainId_quiet F.plain_extend_loop _, ?_⟩) (by simp; omega) (by simp; omega)
    have I2 : Inv X pins σ (upd (upd H s.heap.objs.size (.tup [xs[i], ys[i]])) S (.lst (ts ++ [.ref s.heap.objs.size]))) { s with heap := h'.update S (Obj.mapSeq (·.push (.ref s.heap.objs.size))), toks := tk } :=
      I1.lset (t' := tk) (its' := itt ++ [.ref s.heap.objs.size]) hS1 et (by simp) (rt.append (.cons (show RelV (.ref s.heap.objs.size) (Value.ref s.heap.objs.size) from rfl) .nil)) (by rw [List.length_append, List.length_singleton]; omega)
    have oth : ∀ c o, c ≠ S → h'.get? c = some o → (h'.update S (Obj.mapSeq (·.push (.ref s.heap.objs.size)))).get? c = some o := fun c o hb e => (Heap.get?_update_other _ _ (Ne.symm hb)).trans e
    have nSf : ∀ c ∈ fpz z TI TO i1 i2, c ≠ S := fun c hcm e => by
      have := (fo c hcm).1
      rw [e, hS] at this; cases this
    have tupsUp : ∀ c vs, H c = some (.tup vs) → (upd (upd H s.heap.objs.size (.tup [xs[i], ys[i]])) S (.lst (ts ++ [.ref s.heap.objs.size]))) c = some (.tup vs) := fun c vs e => by
      have c1 : c ≠ S := fun q => by rw [q, hS] at e; cases e
      rw [upd_ne c1, upd_ne (ne_of_none e hTn)]
      exact e
    have newT : (upd (upd H s.heap.objs.size (.tup [xs[i], ys[i]])) S (.lst (ts ++ [.ref s.heap.objs.size]))) s.heap.objs.size = some (.tup [xs[i], ys[i]]) := by rw [upd_ne (Ne.symm nST), upd_same]
    refine ih (i + 1) _ _ (ts ++ [.ref s.heap.objs.size]) (by omega) (by omega) I2 (fun c hcm => ?_) ⟨?_, ?_, ?_⟩ ?_ ?_ ?_ ?_ (fun c o e => ?_) upd_same (by rw [List.length_append, List.length_singleton]; omega) (fun j t e => ?_) (fun t ht T e => ?_)
    · obtain ⟨n0, n1, n2, n3, n4, n5⟩ := fo c hcm
      refine ⟨?_, n1, n2, n3, n4, n5⟩
      have hlt : c ≠ s.heap.objs.size := by
        have e' : c = z ∨ c = TI ∨ c = TO ∨ c = i1 ∨ c = i2 := by simpa [fpz] using hcm
        rcases e' with q | q | q | q | q
        · obtain ⟨_, _, w3⟩ := zs
          rcases w3 with w3 | ⟨_, _, w3, _⟩
          · rw [q]; exact Nat.ne_of_lt (Heap.lt_size w3)
          · rw [q]; exact Nat.ne_of_lt (Heap.lt_size w3)
        · rw [q]; exact Nat.ne_of_lt (Heap.lt_size zs.1)
        · obtain ⟨_, _, w2⟩ := zs.2.1
          rw [q]; exact Nat.ne_of_lt (Heap.lt_size w2)
        · rw [q]; obtain ⟨_, e1, _⟩ := iterK_obj h1; exact Nat.ne_of_lt (Heap.lt_size e1)
        · rw [q]; obtain ⟨_, e2, _⟩ := iterK_obj h2; exact Nat.ne_of_lt (Heap.lt_size e2)
      rw [upd_ne (nSf c hcm), upd_ne hlt]
      exact n0
    · exact oth _ _ (nSf TI (by simp [fpz])) zs'.1
    · obtain ⟨_, _, w2⟩ := zs'.2.1
      exact ⟨_, _, oth _ _ (nSf TO (by simp [fpz])) w2⟩
    · rcases zs'.2.2 with w3 | ⟨T, f, w3, w4⟩
      · exact .inl (oth _ _ (nSf z (by simp [fpz])) w3)
      · refine .inr ⟨T, f, oth _ _ (nSf z (by simp [fpz])) w3, ?_⟩
        rcases w4 with ⟨vs, w4⟩ | w4
        · exact ⟨vs, tupsUp _ _ w4⟩
        · rw [w4]; exact ⟨_, newT⟩
    · exact iterK_at st1.1 fun o q => oth _ _ (nSf i1 (by simp [fpz])) q
    · have q3 := st1.2
      cases ka with
      | l => exact Heap.IsList.at q3 fun o q => oth _ _ (Ne.symm nSa) q
      | t => exact Heap.IsTuple.at q3 fun o q => oth _ _ (Ne.symm nSa) q
    · exact iterK_at st2.1 fun o q => oth _ _ (nSf i2 (by simp [fpz])) q
    · have q3 := st2.2
      cases kb with
      | l => exact Heap.IsList.at q3 fun o q => oth _ _ (Ne.symm nSb) q
      | t => exact Heap.IsTuple.at q3 fun o q => oth _ _ (Ne.symm nSb) q
    · have e' := up c o e
      have c1 : c ≠ S := fun q => by rw [q, hS0] at e; cases e
      rw [upd_ne c1, upd_ne (ne_of_none e' hTn)]
      exact e'
    · by_cases hj : j < ts.length
      · rw [List.getElem?_append_left hj] at e
        exact (hp.up tupsUp) j t e
      · rw [List.getElem?_append_right (by omega)] at e
        have hj' : j - ts.length = 0 := by
          have := (List.getElem?_eq_some_iff.mp e).1
          simp at this
          omega
        rw [hj'] at e
        cases e
        have hji : j = i := by omega
        subst hji
        exact ⟨_, _, _, rfl, newT, List.getElem?_eq_getElem hx, List.getElem?_eq_getElem hy⟩
    · rcases List.mem_append.mp ht with ht | ht
      · exact hf0 t ht T e
      · rw [List.mem_singleton.mp ht] at e
        cases e
        cases q : H0 s.heap.objs.size with
        | none => rfl
        | some o => have := up _ _ q; rw [hTn] at this; cases this
theorem zl_init {A : Around} (hh : A.handled = none) (ka kb : Kd) {a b z TI TO i1 i2 S : Addr} (D : ZipApart z TI TO i1 i2 a b) {its its2 : List Value} {xs ys : List V} (rv : Vals xs its) (rv2 : Vals ys its2) {R : Result → Shared → Prop} {H0 H : Hp} (hS0 : H0 S = none)
    (hsz : xs.length ≤ sizeLine) (nSa : S ≠ a) (nSb : S ≠ b) {s : Shared} (I : Inv X pins σ H s) (fo : ∀ c ∈ fpz z TI TO i1 i2, FpOk X pins H c) (hz : IsZip s.heap z TI TO .none) (hTI : IsTupOf2 s.heap TI (.ref i1) (.ref i2)) (hTO : ∃ u v, IsTupOf2 s.heap TO u v)
    (h1 : IterK ka s.heap i1 a 0) (q1 : SeqAtK ka s.heap a its.toArray) (h2 : IterK kb s.heap i2 b 0) (q2 : SeqAtK kb s.heap b its2.toArray) (up : ∀ c o, H0 c = some o → H c = some o) (hS : H S = some (.lst [])) (hSo : s.heap.get? S = some { cls := .type "list", data := .seq #[] })
    (fin : ∀ H' ts s', Inv X pins σ H' s' → (∀ c o, H0 c = some o → H' c = some o) → H' S = some (.lst ts) → ts.length = min xs.length ys.length → PairsIn H' ts xs ys → (∀ t ∈ ts, ∀ T, t = .ref T → H0 T = none) → R (.ok (.ret .none)) s') :
    wpAny (model X.prog X.w) A.in1 (Builtin.«list.__init__» ⟨[.ref S, .ref z], []⟩)
      (fun fin s' => match fin with | .done f => R (.ok f) s' | .again c' => c'.quiet = true ∧ codeAny (model X.prog X.w) A c' R s') (fun e s' => R (.error e) s') s := by
  have nSf : ∀ c ∈ fpz z TI TO i1 i2, c ≠ S := fun c hcm e => by
    have := (fo c hcm).1
    rw [e, hS] at this; cases this
  have nSz : S ≠ z := Ne.symm (nSf z (by simp [fpz]))
  -- the state stands while S alone is written
  have key : ∀ (h' : Heap), (∀ c o, c ≠ S → s.heap.get? c = some o → h'.get? c = some o) → Inv X pins σ H { s with heap := h' } → codeAny (model X.prog X.w) A (.builtin "list.extend.loop" ⟨[.ref S, .ref z, .none], []⟩) R { s with heap := h' } := by
    intro h' oth I'
    refine zl_loop hh ka kb D rv rv2 hS0 hsz nSa nSb fin _ 0 H _ [] rfl (Nat.zero_le _) I' fo ⟨oth _ _ (nSf TI (by simp [fpz])) hTI, ?_, .inl (oth _ _ (nSf z (by simp [fpz])) hz)⟩ (iterK_at h1 fun o q => oth _ _ (nSf i1 (by simp [fpz])) q) ?_ (iterK_at h2 fun o q => oth _ _ (nSf i2 (by simp [fpz])) q) ?_ up hS rfl (fun j t e => by simp at e) (fun t ht => by simp at ht)
    · obtain ⟨u, v, w⟩ := hTO
      exact ⟨u, v, oth _ _ (nSf TO (by simp [fpz])) w⟩
    · cases ka with
      | l => exact Heap.IsList.at q1 fun o q => oth _ _ (Ne.symm nSa) q
      | t => exact Heap.IsTuple.at q1 fun o q => oth _ _ (Ne.symm nSa) q
    · cases kb with
      | l => exact Heap.IsList.at q2 fun o q => oth _ _ (Ne.symm nSb) q
      | t => exact Heap.IsTuple.at q2 fun o q => oth _ _ (Ne.symm nSb) q
  have hU : upd H S (.lst []) = H := by
    funext c
    by_cases e : c = S
    · subst e; rw [upd_same, hS]
    · rw [upd_ne e]
  have wr : ∀ {h : Heap} {n : Nat} {its its' : List Value} (f : Array Value → Array Value), Inv X pins σ H { s with heap := h } → h.get? S = some { cls := .type "list", data := .seq its.toArray n } → f its.toArray = its'.toArray → its' = [] → Inv X pins σ H { s with heap := h.update S (Obj.mapSeq f) } := by
    intro h n its its' f I' e hf hn
    subst hn
    have := I'.lset (t' := s.toks) (ys := []) hS e hf .nil (Nat.zero_le _)
    rwa [hU] at this
  show wpAny _ _ (do let old ← Builtin.List.listItems (.ref S); Builtin.List.listUpdate (.ref S) (fun _ => #[]); letGo old.toList.reverse; Builtin.List.listExtendWith (.ref S) (.ref z) .none) _ _ s
  refine wpAny_bind ?_
  unfold Builtin.List.listItems
  refine wpAny_bind (wpAny_seqItems hSo rfl (wpAny_pure ?_))
  show wpAny _ _ (updateSeq S (fun _ => #[]) >>= fun _ => letGo (#[] : Array Value).toList.reverse >>= fun _ => Builtin.List.listExtendWith (.ref S) (.ref z) .none) _ _ s
  refine wpAny_bind (wpAny_updateSeq hSo rfl ?_)
  have hS₂ := Heap.get?_update_self (Obj.mapSeq (fun _ => (#[] : Array Value))) hSo rfl
  have oth : ∀ b o, b ≠ S → s.heap.get? b = some o → (s.heap.update S (Obj.mapSeq (fun _ => (#[] : Array Value)))).get? b = some o :=
    fun b o hb e => (Heap.get?_update_other _ _ (Ne.symm hb)).trans e
  have I2 := wr (its := []) (its' := []) (fun _ => (#[] : Array Value)) I hSo (by simp) rfl
  refine wpAny_bind (wpAny_letGo ?_)
  have hTy : ({ s with heap := s.heap.update S (Obj.mapSeq (fun _ => (#[] : Array Value))) } : Shared).TypeIs (.ref z) "zip" := ⟨_, oth _ _ (Ne.symm nSz) hz, rfl⟩
  unfold Builtin.List.listExtendWith
  refine wpAny_bind (wpAny_typeOf hTy ?_)
  have g1 : Builtin.List.listSameRef (.ref S) (.ref z) = false := by simp [Builtin.List.listSameRef, nSz]
  have g2 : (Value.type "zip" == Value.type "list") = false := by decide
  have g3 : (Value.type "zip" == Value.type "tuple") = false := by decide
  simp only [g1, g2, g3, Bool.or_false, Bool.false_eq_true, if_false]
  refine wpAny_bind (wpAny_pyIter_zip (oth _ _ (Ne.symm nSz) hz) ?_)
  refine wpAny_bind (wpAny_holding (zl_hint (b := .none) hTy ?_))
  refine wpAny_ite_split (fun _ => ?_) (fun _ => wpAny_pure ⟨plainId_quiet PySem.F.plain_extend_loop _, key _ oth I2⟩)
  refine wpAny_bind (wpAny_rule ?_)
  refine wpAny_bind ?_
  show wpAny _ _ (updateSeq S (·.push .none) >>= fun _ => updateSeq S (·.pop)) _ _ _
  refine wpAny_bind (wpAny_updateSeq hS₂ rfl ?_)
  have hS₃ := Heap.get?_update_self (Obj.mapSeq (·.push Value.none)) hS₂ rfl
  refine wpAny_updateSeq (hz := by seq_fits) hS₃ rfl ?_
  refine wpAny_pure ⟨plainId_quiet PySem.F.plain_extend_loop _, key _ (fun b o hb e => (Heap.get?_update_other _ _ (Ne.symm hb)).trans ((Heap.get?_update_other _ _ (Ne.symm hb)).trans (oth b o hb e))) ?_⟩
  have I3 := I2.lset (t' := s.toks) (ys := [.non]) (its' := [.none]) (its := []) (f := (·.push Value.none)) hS hS₂ (by simp) (.cons rfl .nil) (by decide)
  have I4 := I3.lset (t' := s.toks) (ys := []) (its' := []) (its := [.none]) (f := (·.pop)) upd_same hS₃ (by simp) .nil (by decide)
  rw [upd_upd, hU] at I4
  exact I4
end
/-- list(zip(a, b)), a and b a list or a tuple each -/
def tZipL (K : PySem.W.Frag) (ta : TA) : TE := fun σ H Q => ta σ H fun vs H1 => ∃ ka kb a b xs ys, vs = [.ref a, .ref b] ∧ SqK K ka H1 a xs ∧ SqK K kb H1 b ys ∧
  ∀ H' S ts, (∀ c o, H1 c = some o → H' c = some o) → H1 S = none → H' S = some (.lst ts) → ts.length = min xs.length ys.length → PairsIn H' ts xs ys → (∀ t ∈ ts, ∀ T, t = .ref T → H1 T = none) → Q (.ref S) H'
section
variable {X : Cx} {e e2 : Expr} {pos p pos2 p2 : Pos} {tl : DA}
theorem pe_zipL {ta : TA} (hc : X.calm = true) (gl : Gl X "list") (ml : X.mg "list" = none) (hg : Gl X "zip") (hm : X.mg "zip" = none) (ha : PA X [e, e2] ta)
    (hs : starEach [e, e2] X.env = (false, eval e X.env) :: starEach [e2] X.env := by rfl) (hpl : (backTo pos2 (starEach [e2] X.env)).any (·.1) = false := by rfl)
    (hs0 : starEach [.Call (.Name "zip" p2) [e, e2] [] pos2] X.env = (false, eval (.Call (.Name "zip" p2) [e, e2] [] pos2) X.env) :: starEach [] X.env := by rfl) (hpl0 : (backTo pos (starEach [] X.env)).any (·.1) = false := by rfl) :
    PE X (.Call (.Name "list" p) [.Call (.Name "zip" p2) [e, e2] [] pos2] [] pos) (tZipL X.K ta) := by
  refine ⟨fun pins s σ H Q I h => ?_⟩
  refine wpAny_Call_Name_kw (ld_blt I gl ml PyProof.Rows.boot_list ?_)
  refine PyProof.Rows.callWith_type1 ?_ hs0 hpl0
  rw [hs0]
  refine Calls.spliced_cons ?_
  refine Call_ (ld_blt I hg hm PyProof.Rows.boot_zip (PyProof.Rows.callWith_type1 (thn (ha.run pos2 pins s σ H _ I h) fun us s1 ⟨vs, H1, I1, r1, q1⟩ => ?_) hs hpl))
  obtain ⟨ka, kb, a, b, xs, ys, ex, hqx, hqy, q⟩ := q1
  subst ex
  cases r1 with
  | cons r rr =>
    cases rr with
    | cons r' rr =>
      cases rr
      cases r
      cases r'
      obtain ⟨its, rv, p1, l1⟩ := sqK_at I1 hqx
      obtain ⟨its2, rv2, p2, l2⟩ := sqK_at I1 hqy
      refine zip_begins2 (beginsK ka a its.toArray) (beginsK kb b its2.toArray) p1 p2 fun h' hz hTI hTO h1 h2 hsz hk => ?_
      refine Calls.spliced_nil ?_
      have I2 : Inv X pins σ H1 { s1 with heap := h' } := I1.kept (t' := s1.toks) hk
      have hxl : xs.length ≤ sizeLine := by
        cases ka with
        | l => obtain ⟨_, _, _, z⟩ := I1.list hqx; exact z
        | t => obtain ⟨_, _, _, z⟩ := I1.tuple hqx; exact z
      refine callType_codes (Q₁ := fun obj s₁ => obj = .ref h'.objs.size ∧ s₁ = { s1 with heap := h'.push { cls := .type "list", data := .seq #[] } }) PySem.F.called_list (PySem.F.typeCall_list_1 _) PySem.F.entry_list_init
        (code_list_new _ ⟨rfl, rfl⟩) fun obj s₁ h₁ => ?_
      obtain ⟨rfl, rfl⟩ := h₁
      have hSo : (h'.push { cls := .type "list", data := .seq #[] }).get? h'.objs.size = some { cls := .type "list", data := .seq #[] } := Heap.get?_push_size _ rfl
      have I3 : Inv X pins σ (upd H1 h'.objs.size (.lst [])) { s1 with heap := h'.push { cls := .type "list", data := .seq #[] } } := I2.lnew (t' := s1.toks) (its := []) (ys := []) .nil (Nat.zero_le _)
      have hSn : H1 h'.objs.size = none := I2.hok.fresh (Nat.le_refl _)
      have lt5 : ∀ c ∈ fpz (s1.heap.objs.size + 4) (s1.heap.objs.size + 2) (s1.heap.objs.size + 3) s1.heap.objs.size (s1.heap.objs.size + 1), s1.heap.objs.size ≤ c ∧ c < h'.objs.size := fun c hcm => by
        have e' : c = s1.heap.objs.size + 4 ∨ c = s1.heap.objs.size + 2 ∨ c = s1.heap.objs.size + 3 ∨ c = s1.heap.objs.size ∨ c = s1.heap.objs.size + 1 := by simpa [fpz] using hcm
        have hh5 : ∀ k, k < 5 → s1.heap.objs.size + k < h'.objs.size := fun k hk5 => by rw [hsz]; exact Nat.add_lt_add_left hk5 _
        rcases e' with q | q | q | q | q
        · rw [q]; exact ⟨Nat.le_add_right _ _, hh5 4 (by decide)⟩
        · rw [q]; exact ⟨Nat.le_add_right _ _, hh5 2 (by decide)⟩
        · rw [q]; exact ⟨Nat.le_add_right _ _, hh5 3 (by decide)⟩
        · rw [q]; exact ⟨Nat.le_refl _, hh5 0 (by decide)⟩
        · rw [q]; exact ⟨Nat.le_add_right _ _, hh5 1 (by decide)⟩
      have h5 : s1.heap.objs.size < h'.objs.size := by rw [hsz]; exact Nat.lt_add_of_pos_right (by decide)
      have up : ∀ c o, h'.get? c = some o → (h'.push { cls := .type "list", data := .seq #[] }).get? c = some o := fun c o e => Heap.get?_push_of_some _ e
      refine ⟨⟨_, hSo, rfl⟩, PySem.F.args_list_init_2 _ _, zl_init (A := X.A.in1) (I1.ok.hd hc) ka kb (PySem.W.ktu_apart s1.heap.objs.size a b l1 l2) rv rv2 (H0 := H1) hSn hxl (Nat.ne_of_gt (Nat.lt_trans l1 h5)) (Nat.ne_of_gt (Nat.lt_trans l2 h5)) I3 (fun c hcm => ?_) (up _ _ hz) (up _ _ hTI) ⟨_, _, up _ _ hTO⟩ (iterK_at (iterK_new h1) fun o q => up _ _ q) ?_ (iterK_at (iterK_new h2) fun o q => up _ _ q) ?_ (fun c o e => ?_) upd_same hSo fun H' ts s' I' hk' hS' hl' hp' hf' => ?_⟩
      · obtain ⟨g1, g2⟩ := lt5 c hcm
        refine I1.fpOk g1 ?_
        rw [upd_ne (Nat.ne_of_lt g2)]
        exact I1.hok.fresh g1
      · cases ka with
        | l => exact Heap.IsList.at p1 fun o q => up _ _ (hk _ _ q)
        | t => exact Heap.IsTuple.at p1 fun o q => up _ _ (hk _ _ q)
      · cases kb with
        | l => exact Heap.IsList.at p2 fun o q => up _ _ (hk _ _ q)
        | t => exact Heap.IsTuple.at p2 fun o q => up _ _ (hk _ _ q)
      · rw [upd_ne (ne_of_none e hSn)]; exact e
      · exact ⟨rfl, .ref h'.objs.size, H', I', rfl, q H' _ ts hk' hSn hS' hl' hp' hf'⟩
def isTbl : HO → Bool | .tbl _ => true | _ => false
/-- what is new becomes known -/
def grownL (H H' L : Hp) : Hp := fun c => if H c = none then (match H' c with | some o => if isTbl o = true then none else some o | none => none) else L c
theorem At.grow {K : PySem.W.Frag} {as : List Addr} {M : Ms} {L H H' : Hp} (A : At K as M L H) (k : ∀ c o, H c = some o → H' c = some o) : ∃ L', Step as L H as L' H' ∧ At K as M L' H' ∧ ∀ c o, H c = none → H' c = some o → isTbl o = false → L' c = some o := by
  have gn : ∀ {c : Addr}, H c ≠ none → grownL H H' L c = L c := fun {c} h => if_neg h
  have gy : ∀ {c : Addr} {o : HO}, H c = none → grownL H H' L c = some o → H' c = some o ∧ isTbl o = false := fun {c o} h e => by
    have e2 : (match H' c with | some o => if isTbl o = true then none else some o | none => none) = some o := (if_pos h).symm.trans e
    cases q : H' c with
    | none => rw [q] at e2; cases e2
    | some u =>
      rw [q] at e2
      cases t : isTbl u with
      | true => simp only [t, if_true] at e2; cases e2
      | false => simp only [t, Bool.false_eq_true, if_false] at e2; cases e2; exact ⟨rfl, t⟩
  have lh : ∀ {c : Addr} {o : HO}, L c = some o → H c ≠ none := fun {c o} h => by rw [A.low c o h]; simp
  refine ⟨grownL H H' L, ⟨fun c o _ h => k c o h, fun c o h => (gn (lh h)).trans h, fun c h h' => (gn h').trans h, Pre.refl _, fun _ h => .inl h⟩, ⟨fun c o h => ?_, A.len, A.nd, fun j a m h1 h2 => ?_, fun c ps h => ?_⟩, fun c o h h' ht => ?_⟩
  · by_cases e : H c = none
    · exact (gy e h).1
    · rw [gn e] at h; exact k c o (A.low c o h)
  · obtain ⟨h3, o, h4, h5⟩ := A.mo j a m h1 h2
    exact ⟨(gn (by rw [h4]; simp)).trans h3, o, k a o h4, h5.1.mono (fun c o h => (gn (lh h)).trans h) (Pre.refl _), h5.2.keep (KeepC.of k)⟩
  · by_cases e : H c = none
    · have := (gy e h).2; cases this
    · rw [gn e] at h; exact A.nt c ps h
  · show (if H c = none then (match H' c with | some o => if isTbl o = true then none else some o | none => none) else L c) = some o
    rw [if_pos h, h']
    simp only [ht, Bool.false_eq_true, if_false]
@[simp] def dZipL (tl : DA) : DE := fun ρ M P => tl ρ M fun ds M1 => ∃ d e xs ys, ds = [d, e] ∧ isSeq d xs ∧ isSeq e ys ∧ P (.lst (pairs xs ys)) M1
theorem RpA.of {K : PySem.W.Frag} {as : List Addr} {L : Hp} : ∀ {vs : List V} {ds : List D}, vs.length = ds.length → (∀ (j : Nat) (v : V) (d : D), vs[j]? = some v → ds[j]? = some d → Rp K as L v d) → RpA K as L vs ds
  | [], [], _, _ => .nil
  | [], _ :: _, h, _ => by simp at h
  | _ :: _, [], h, _ => by simp at h
  | v :: vs, d :: ds, hl, h => .cons (h 0 v d rfl rfl) (RpA.of (by simpa using hl) fun j v' d' e1 e2 => h (j + 1) v' d' (by simpa using e1) (by simpa using e2))
theorem pd_zipL (hc : X.calm = true) (gl : Gl X "list") (ml : X.mg "list" = none) (hg : Gl X "zip") (hm : X.mg "zip" = none) (ha : PDA X [e, e2] tl)
    (hs : starEach [e, e2] X.env = (false, eval e X.env) :: starEach [e2] X.env := by rfl) (hpl : (backTo pos2 (starEach [e2] X.env)).any (·.1) = false := by rfl)
    (hs0 : starEach [.Call (.Name "zip" p2) [e, e2] [] pos2] X.env = (false, eval (.Call (.Name "zip" p2) [e, e2] [] pos2) X.env) :: starEach [] X.env := by rfl) (hpl0 : (backTo pos (starEach [] X.env)).any (·.1) = false := by rfl) :
    PD X (.Call (.Name "list" p) [.Call (.Name "zip" p2) [e, e2] [] pos2] [] pos) (dZipL tl) := by
  obtain ⟨u, pa, s⟩ := ha.ex
  refine ⟨_, pe_zipL hc gl ml hg hm pa hs hpl hs0 hpl0, ?_⟩
  intro as σ ρ L H M P Q hE A h q
  refine s as σ ρ L H M _ _ hE A h fun vs ds L1 H1 M1 s1 A1 h1 r1 => ?_
  obtain ⟨d, f, xs, ys, rfl, hd, hf, p⟩ := h1
  cases r1 with
  | cons ra rb =>
    cases rb with
    | cons rb rc =>
      cases rc
      obtain ⟨ka, a, xv, rfl, g1, w1⟩ := rp_seq ra hd
      obtain ⟨kb, b, yv, rfl, g2, w2⟩ := rp_seq rb hf
      refine ⟨ka, kb, a, b, xv, yv, rfl, ex_k A1.low g1, ex_k A1.low g2, fun H' S ts hk hS hS' hl hp hn => ?_⟩
      obtain ⟨L2, s2, A2, hL2⟩ := A1.grow hk
      refine q _ _ L2 H' M1 (s1.trans A1 s2) A2 p (.lst (.inl (.inl (hL2 _ _ hS hS' rfl))) (RpA.of (by rw [hl, pairs_len, w1.length, w2.length]) fun j v dd e1 e3 => ?_))
      obtain ⟨T, x, y, rfl, hT, hx, hy⟩ := hp j v e1
      obtain ⟨dx, qx, rx⟩ := w1.getV hx
      obtain ⟨dy, qy, ry⟩ := w2.getV hy
      rw [pairs_get xs ys j dx dy qx qy] at e3
      cases e3
      exact .tup (.inl (.inl (hL2 _ _ (hn _ (List.mem_of_getElem? e1) T rfl) hT rfl))) (.cons (rx.mono s2.k (Pre.refl _)) (.cons (ry.mono s2.k (Pre.refl _)) .nil))
end
end Pd
set_option Elab.async false
set_option linter.all false
set_option maxRecDepth 100000
set_option maxHeartbeats 1000000
namespace Pd
open PySem PySem.Spec PyProof.Rows L2
theorem lc_map {g : DG} {te : DE} {ρ : Rho} {P : D → Ms → Prop} {M : Ms} (f : D → D) : ∀ (ds acc : List D), (∀ d ∈ ds, ∀ R : D → Ms → Prop, R (f d) M → g d ρ fun ρ' => te ρ' M R) → acc.length + ds.length ≤ sizeLine → P (.lst (acc ++ ds.map f)) M → lcRun g dYes te ρ P ds acc M
  | [], acc, _, _, p => by
    show P (.lst acc) M
    simpa using p
  | d :: r, acc, h, hz, p => by
    rw [List.length_cons] at hz
    have := h d List.mem_cons_self (fun y M2 => acc.length < sizeLine ∧ lcRun g dYes te ρ P r (acc ++ [y]) M2) ⟨by omega, lc_map f r (acc ++ [f d]) (fun d' h' => h d' (List.mem_cons_of_mem _ h')) (by rw [List.length_append, List.length_singleton]; omega) (by simpa using p)⟩
    exact this
theorem lc_ind {g : DG} {te : DE} {ρ : Rho} {P : D → Ms → Prop} (I : List D → Ms → Prop) (N : Nat) (hN : N ≤ sizeLine) (step : ∀ (d : D) (acc : List D) (M : Ms) (R : D → Ms → Prop), I acc M → acc.length < N → (∀ y M2, I (acc ++ [y]) M2 → R y M2) → g d ρ fun ρ' => te ρ' M R)
    (fin : ∀ acc M, I acc M → acc.length = N → P (.lst acc) M) : ∀ (ds acc : List D) (M : Ms), I acc M → acc.length + ds.length = N → lcRun g dYes te ρ P ds acc M
  | [], acc, M, h, hl => fin acc M h (by simpa using hl)
  | d :: r, acc, M, h, hl => by
    rw [List.length_cons] at hl
    exact step d acc M (fun y M2 => acc.length < sizeLine ∧ lcRun g dYes te ρ P r (acc ++ [y]) M2) h (by omega) fun y M2 hy => ⟨by omega, lc_ind I N hN step fin r (acc ++ [y]) M2 hy (by rw [List.length_append, List.length_singleton]; omega)⟩
theorem for_ind {g : DG} {body : DS} {De : DEnds} (I : Nat → Rho → Ms → Prop) (ds : List D) (step : ∀ (k : Nat) (d : D) (ρ : Rho) (M : Ms) (N : Rho → Ms → Prop), ds[k]? = some d → I k ρ M → (∀ ρ2 M2, I (k + 1) ρ2 M2 → N ρ2 M2) → g d ρ fun ρ' => body { De with nx := N, ct := N, bk := De.nx } ρ' M)
    (fin : ∀ ρ M, I ds.length ρ M → De.nx ρ M) {ρ : Rho} {M : Ms} (h : I 0 ρ M) : forRun g body De ds ρ M := by
  have key : ∀ (r : List D) (k : Nat) (ρ : Rho) (M : Ms), ds.drop k = r → k + r.length = ds.length → I k ρ M → forRun g body De r ρ M := by
    intro r
    induction r with
    | nil =>
      intro k ρ M _ hl h
      have e : k = ds.length := by simpa using hl
      subst e
      exact fin ρ M h
    | cons d r ih =>
      intro k ρ M hd hl h
      have hk : ds[k]? = some d := by
        have := congrArg (·[0]?) hd
        simpa using this
      rw [List.length_cons] at hl
      have hr : ds.drop (k + 1) = r := by
        have := congrArg List.tail hd
        simpa using this
      exact step k d ρ M (fun ρ2 M2 => forRun g body De r ρ2 M2) hk h fun ρ2 M2 h2 => ih (k + 1) ρ2 M2 hr (by omega) h2
  exact key ds 0 ρ M (by simp) (by simp) h
abbrev dI (xs : List Int) : List D := xs.map D.int
theorem plain_ints : ∀ xs : List Int, plainA (dI xs) = true
  | [] => rfl
  | x :: xs => by show (true && plainA (dI xs)) = true; rw [plain_ints xs]; rfl
theorem lay_ints : ∀ xs : List Int, PyData.canLayAll0 (toPA (dI xs)) = true
  | [] => rfl
  | x :: xs => by show (true && PyData.canLayAll0 (toPA (dI xs))) = true; rw [lay_ints xs]; rfl
theorem depth_ints : ∀ xs : List Int, PyData.depthAll (toPA (dI xs)) = 0
  | [] => rfl
  | x :: xs => by show max 0 (PyData.depthAll (toPA (dI xs))) = 0; rw [depth_ints xs]; rfl
theorem okD_tup (xs : List Int) : okD (.tup (dI xs)) = true := by
  have h1 : plain (.tup (dI xs)) = true := plain_ints xs
  have h2 : SeqAt.shaped (toP (.tup (dI xs))) = true := by
    show (PyData.canLayAll0 (toPA (dI xs)) && decide (PyData.depthAll (toPA (dI xs)) + 1 ≤ 64)) = true
    rw [lay_ints, depth_ints]
    rfl
  unfold okD
  rw [h1, h2]
  rfl
theorem okD_lst (xs : List Int) : okD (.lst (dI xs)) = true := okD_tup xs
theorem eqA_ints : ∀ xs ys : List Int, PyData.eqvAll (toPA (dI xs)) (toPA (dI ys)) = decide (xs = ys)
  | [], [] => rfl
  | [], _ :: _ => rfl
  | _ :: _, [] => rfl
  | x :: xs, y :: ys => by
    show ((x == y) && PyData.eqvAll (toPA (dI xs)) (toPA (dI ys))) = _
    rw [eqA_ints xs ys, Bool.eq_iff_iff]
    simp
theorem eqD_tup (xs ys : List Int) : eqD (.tup (dI xs)) (.tup (dI ys)) = decide (xs = ys) := eqA_ints xs ys
theorem eqD_int (i j : Int) : eqD (.int i) (.int j) = decide (i = j) := by
  show (i == j) = _
  rw [Bool.eq_iff_iff]; simp
theorem pd_fldK {X : Cx} {K : PySem.W.Frag} {e : Expr} {t : DE} {pos : Pos} {f : Str} (hK : X.K = K) (he : PD X e t) (hb : attributeBase e f X.env (eval e X.env) = eval e X.env := by rfl) : PD X (.Attribute e f pos) (dFld K t f) := hK ▸ pd_fld he hb
section
variable {K : PySem.W.Frag}
@[simp] def oIsB : D2 := fun x y M P => ∃ a b : Bool, x = .bl a ∧ y = .bl b ∧ P (.bl (decide (a = b))) M
@[simp] def oList : DC := fun xs M P => ∃ d ds, xs = [d] ∧ isSeq d ds ∧ P (.lst ds) M
theorem sc_list : SimC K (fun xs H Q => ∃ p ys, xs = [.ref p] ∧ (SqL K H p ys ∨ SqT K H p ys) ∧ ∀ l, H l = none → Q (.ref l) (upd H l (.lst ys))) oList := by
  intro as L H M xs ds P Q A r ⟨d, es, h, hd, p⟩ q
  subst h
  cases r with
  | cons r1 r2 =>
    cases r2
    rcases hd with rfl | rfl
    · cases r1 with
      | lst hs ra => exact ⟨_, _, rfl, .inl (ex_l A.low hs), fun l hl => q _ _ _ _ M (Step.know A hl) (A.know hl) p (.lst (.inl (.inl upd_same)) (ra.mono (Ex.new (lowfree A hl)) (Pre.refl _)))⟩
    · cases r1 with
      | tup hs ra => exact ⟨_, _, rfl, .inr (ex_t A.low hs), fun l hl => q _ _ _ _ M (Step.know A hl) (A.know hl) p (.lst (.inl (.inl upd_same)) (ra.mono (Ex.new (lowfree A hl)) (Pre.refl _)))⟩
end
/-- the changeable objects hold none that stands behind -/
def okM (M : Ms) : Prop := apartM M.length M = true
theorem apartA_ints (k : Nat) : ∀ xs : List Int, apartA k (dI xs) = true
  | [] => rfl
  | x :: xs => by show (true && apartA k (dI xs)) = true; rw [apartA_ints k xs]; rfl
theorem set_last {α : Type} (M : List α) (x y : α) : (M ++ [x]).set M.length y = M ++ [y] := by
  rw [List.set_append_right _ _ (Nat.le_refl _), Nat.sub_self]
  rfl
theorem get_last {α : Type} (M : List α) (x : α) : (M ++ [x])[M.length]? = some x := by
  rw [List.getElem?_append_right (Nat.le_refl _), Nat.sub_self]
  rfl
end Pd
set_option Elab.async false
set_option linter.all false
set_option maxRecDepth 100000
set_option maxHeartbeats 1000000
namespace Pd
open PySem PySem.Spec PyProof.Rows L2
theorem bsplit {b : Bool} {P Q : Prop} (h1 : b = true → P) (h0 : b = false → Q) : if b = true then P else Q := by
  cases b
  · exact h0 rfl
  · exact h1 rfl
abbrev DN := (List D → Ms → Prop) → Rho → Ms → Prop
structure PDN (X : Cx) (sts : List Stmt) (t : DN) : Prop where
  ex : ∃ ts, PSs X sts ts ∧ ∀ as σ ρ L H M P D, En X.K as L σ ρ → At X.K as M L H → t P ρ M →
    (∀ p xs m L' H' M', Step as L H as L' H' → At X.K as M' L' H' → H p = none → L' p = none → H' p = some (.lst xs) → RpA X.K as L' xs m → P m M' → D.rt (.ref p) H') → ts D σ H
theorem Step.free {as : List Addr} {L H L1 H1 : Hp} {K : PySem.W.Frag} {M M1 : Ms} (A : At K as M L H) (s : Step as L H as L1 H1) (A1 : At K as M1 L1 H1) {p : Addr} (h : H1 p = none) : H p = none := by
  by_cases hp : p ∈ as
  · exact absurd h (A1.held hp).2
  · cases q : H p with
    | none => rfl
    | some o => rw [s.up p o hp q] at h; cases h
theorem At.hidden {K : PySem.W.Frag} {as : List Addr} {M : Ms} {L H : Hp} {p : Addr} {o : HO} (A : At K as M L H) (hp : H p = none) : At K as M L (upd H p o) := by
  have lp := lowfree A hp
  refine ⟨fun a u h => ?_, A.len, A.nd, fun k a m e1 e2 => ?_, A.nt⟩
  · rw [upd_ne (fun z => by rw [z, lp] at h; cases h)]; exact A.low a u h
  · obtain ⟨h3, u, h4, h5⟩ := A.mo k a m e1 e2
    exact ⟨h3, u, by rw [upd_ne (ne_of_none h4 hp)]; exact h4, h5.1, h5.2.keep (KeepC.new hp)⟩
theorem Step.hidden {as : List Addr} {L H L1 H1 : Hp} {p : Addr} {o : HO} (s : Step as L H as L1 H1) (hp : H1 p = none) : Step as L H as L1 (upd H1 p o) :=
  ⟨fun a u ha h => by rw [upd_ne (ne_of_none (s.up a u ha h) hp)]; exact s.up a u ha h, s.k, s.hid, s.pre, s.new⟩
section
variable {X : Cx} {st : Stmt} {sts : List Stmt} {s1 : DS} {t : DN} {es : List Expr} {tl : DA} {pos pos' : Pos}
@[simp] def nRet (tl : DA) : DN := fun P ρ M => tl ρ M fun ds M1 => ds.length ≤ sizeLine ∧ P ds M1
theorem pdn_ret (h : PDA X es tl) : PDN X [.Return (some (.List es pos)) pos'] (nRet tl) := by
  obtain ⟨u, p, s⟩ := h.ex
  refine ⟨_, pss_one (ps_ret (pe_lst p)), fun as σ ρ L H M P D hE A h k => ?_⟩
  refine s as σ ρ L H M _ _ hE A h fun vs ds L1 H1 M1 s1 A1 h1 r1 => ⟨by rw [r1.length]; exact h1.1, fun p hp => ?_⟩
  exact k p vs ds L1 _ M1 (s1.hidden hp) (A1.hidden hp) (Step.free A s1 A1 hp) (lowfree A1 hp) upd_same r1 h1.2
@[simp] def nSeq (s : DS) (t : DN) : DN := fun P ρ M => s { nx := fun ρ' M' => t P ρ' M', rt := fun _ _ => False } ρ M
theorem pdn_cons (h1 : PDS X st s1) (h2 : PDN X sts t) : PDN X (st :: sts) (nSeq s1 t) := by
  obtain ⟨u1, p1, q1⟩ := h1.ex
  obtain ⟨u2, p2, q2⟩ := h2.ex
  refine ⟨_, pss_cons p1 p2, fun as σ ρ L H M P D hE A h k => ?_⟩
  refine sim_then (De := { nx := fun _ _ => False, rt := fun _ _ => False }) q1 hE A ⟨fun _ _ _ _ _ _ _ _ z => z.elim, fun _ _ _ _ _ _ _ z => z.elim, fun _ _ _ _ _ _ _ _ z => z.elim, fun _ _ _ _ _ _ _ _ z => z.elim⟩ (nx := fun ρ' M' => t P ρ' M') (fun σ' ρ' L' H' M' s' A' e' h' => ?_) h
  exact q2 as σ' ρ' L' H' M' P D e' A' h' fun p xs m L2 H2 M2 s2 A2 h0 l0 hx r q => k p xs m L2 H2 M2 (s'.trans A' s2) A2 (Step.free A s' A' h0) l0 hx r q
end
section
variable {X : Cx} {a b : Expr} {tl : DA} {pos : Pos}
/-- x, y = a, b -/
@[simp] def sPar (i j : Nat) (tl : DA) : DS := fun De ρ M => tl ρ M fun ds M1 => ∃ d e, ds = [d, e] ∧ De.nx ((ρ.set i (some d)).set j (some e)) M1
theorem pds_par (i j : Nat) {x y : Str} {px py pt : Pos} {kt k2 pt2} (hc : X.calm = true) (hN : X.N.Nodup) (ha : PDA X [a, b] tl) (hij : i ≠ j) (hi : X.N[i]? = some x := by rfl) (hj : X.N[j]? = some y := by rfl)
    (hx : X.env.scope.names.lookup x = some .local := by rfl) (hy : X.env.scope.names.lookup y = some .local := by rfl)
    (hw : swappedStores [.Tuple [.Name x px, .Name y py] kt pt] (.Tuple [a, b] k2 pt2) X.env = pure (some [x, y]) := by rfl)
    (hs : swapsWithSole [.Tuple [.Name x px, .Name y py] kt pt] (.Tuple [a, b] k2 pt2) pos.line X.env = pure false := by rfl) :
    PDS X (.Assign [.Tuple [.Name x px, .Name y py] kt pt] (.Tuple [a, b] k2 pt2) pos) (sPar i j tl) := by
  obtain ⟨u, p, s⟩ := ha.ex
  refine ⟨_, ps_par hc hN hi hj hij hx hy p hw hs, ?_⟩
  intro as σ ρ L H M De D hE A h c
  refine s as σ ρ L H M _ _ hE A h fun vs ds L1 H1 M1 s1 A1 h1 r1 => ?_
  obtain ⟨d, e, rfl, q⟩ := h1
  cases r1 with
  | cons r2 r3 =>
    cases r3 with
    | cons r4 r5 =>
      cases r5
      exact ⟨_, _, rfl, c.nx _ _ L1 H1 M1 s1 A1 (((hE.mono s1.k s1.pre).set i r2).set j r4) q⟩
end
section
variable {P : Program} {w : World} {K : PySem.W.Frag} {mg : Str → Option Value} {base : Heap}
theorem pd_fnN {x qual : Str} {st : Stmt} {f : Addr} {fd : FuncData} {N ps : List Str} {k : Nat} {W : DCN} (F : Fun K x qual st f fd) (S : FnScope N ps (defScope st))
    (hbody : ∀ (cdv : Value) (A : Around) (outer : List Env) (s : Shared) (H : Hp) (E : XK), Room k (A.deeper (envOfC qual (defScope st) s.heap.objs.size f cdv)) →
      ∃ t, PDN (cxOf CX0 P w K mg base N qual (defScope st) f cdv A outer s H E).nox (defBody st) t ∧ ∀ ds M Q, ds.length = ps.length → W ds M Q → t Q (startD N ds) M) :
    FnOk P w K mg base CX0 (k + 1) f fd ps (spN ps.length W K) := by
  refine F.ok S (fun vs H Q E h => h.1) (fun cdv A outer s H vs Q E hr h => ?_)
  obtain ⟨hl, as, M, L, ds, P', r, A0, hw, q⟩ := h
  obtain ⟨t, ht, hb⟩ := hbody cdv A outer s H E hr
  obtain ⟨ts, pt, st'⟩ := ht.ex
  exact ⟨ts, pt, st' as (L2.start N vs) (startD N ds) L H M P' _ (en_start r) A0 (hb ds M P' (by rw [← r.length]; exact hl) hw) fun p xs m L' H' M' s' A' h0 l0 hx rx hp => q p xs m L' H' M' s' A' h0 l0 hx rx hp⟩
end
end Pd
set_option Elab.async false
set_option linter.all false
set_option maxRecDepth 100000
set_option maxHeartbeats 2000000
namespace Pd
open PySem PySem.Spec PyProof.Rows L2 PySem.HandSPX
/-- own classes, then the base's mro -/
inductive RefsT (tl : List Value) : List Value → Prop
  | tl : RefsT tl tl
  | ref (c : Addr) {r : List Value} : RefsT tl r → RefsT tl (.ref c :: r)
section
variable {B newId initId : String} {tl : List Value}
theorem RefsT.contains (X : String) : ∀ {l : List Value}, RefsT tl l → l.contains (.type X) = tl.contains (.type X)
  | _, .tl => rfl
  | _, .ref c h => by rw [List.contains_cons, h.contains X]; rfl
end
end Pd
set_option Elab.async false
set_option linter.all false
set_option maxRecDepth 100000
set_option maxHeartbeats 2000000
namespace Pd
open PySem PySem.Spec PyProof.Rows L2 PySem.HandSPX
theorem At.shown {K : PySem.W.Frag} {as : List Addr} {M : Ms} {L H : Hp} {a : Addr} {o : HO} (A : At K as M L H) (la : L a = none) (na : a ∉ as) (kc : KeepC H (upd H a o)) (ho : ∀ ps, o ≠ .tbl ps) : At K as M (upd L a o) (upd H a o) := by
  refine ⟨fun b u h => ?_, A.len, A.nd, fun k b m e1 e2 => ?_, A.nt.new ho⟩
  · by_cases hb : b = a
    · subst hb; rw [upd_same] at h ⊢; exact h
    · rw [upd_ne hb] at h ⊢; exact A.low b u h
  · obtain ⟨h3, u, h4, h5⟩ := A.mo k b m e1 e2
    have hb : b ≠ a := fun z => na (by rw [← z]; exact List.mem_of_getElem? e1)
    exact ⟨by rw [upd_ne hb]; exact h3, u, by rw [upd_ne hb]; exact h4, h5.1.mono (Ex.new la) (Pre.refl _), h5.2.keep kc⟩
theorem Step.shown {as : List Addr} {L0 H0 L H : Hp} {a : Addr} {o : HO} (s : Step as L0 H0 as L H) (ha : H0 a = none) (la : L a = none) : Step as L0 H0 as (upd L a o) (upd H a o) :=
  ⟨fun b u hb h => by rw [upd_ne (ne_of_none h ha)]; exact s.up b u hb h, fun b u h => by
    have := s.k b u h
    rw [upd_ne (fun z => by rw [z, la] at this; cases this)]; exact this, fun b h h' => by rw [upd_ne (fun z => h' (by rw [z]; exact ha))]; exact s.hid b h h', s.pre, s.new⟩
section
variable {X : Cx} {p pos : Pos}
@[simp] def dExc0 (C : Addr) : DE := fun _ M P => P (.exc C []) M
end
section
variable {X : Cx} {B newId initId : String} {tl : List Value} {e : Expr} {ta : DA} {p pos : Pos}
/-- C(e), the exception keeps e in its field f -/
@[simp] def dExc1 (C : Addr) (f : Str) (ta : DA) : DE := fun ρ M P => ta ρ M fun ds M1 => ∃ y, ds = [y] ∧ P (.exc C [(f, y)]) M1
end
end Pd
set_option Elab.async false
set_option linter.all false
set_option maxRecDepth 100000
set_option maxHeartbeats 2000000
namespace Pd
open PySem PySem.Spec PyProof.Rows L2 PySem.HandSPX
section
variable {X : Cx} {e : Expr} {te : TE} {t : DE} {pos : Pos} {n : Str}
@[simp] def dXg (K : PySem.W.Frag) (t : DE) (n : Str) : DE := fun ρ M P => t ρ M fun x M1 => ∃ C gs v, x = .exc C gs ∧ ExcC K C ∧ PySem.W.findIn K (.ref C) n = some none ∧ gs.lookup n = some v ∧ P v M1
@[simp] def oIsiE (K : PySem.W.Frag) : DC := fun xs M P => ∃ C gs c v u b, xs = [.exc C gs, c] ∧ ExcC K C ∧ DCl c v u ∧ PySem.W.kitOne K (.ref C) u = some b ∧ P (.bl b) M
end
end Pd
set_option Elab.async false
set_option linter.all false
set_option maxRecDepth 100000
set_option maxHeartbeats 2000000
namespace Pd
open PySem PySem.HandSPX
open PySem.Spec PyProof.Rows L2
section
variable {X : Cx} {B newId initId : String} {tl : List Value} {e : Expr} {kws : List Keyword} {tk : TA} {p pos kpos : Pos} {nm : Option Str} {te : DE} {td : DA}
structure PDK (X : Cx) (kws : List Keyword) (t : DA) : Prop where
  ex : ∃ te, PK X kws te ∧ SimA X.K te t
theorem pdk_nil : PDK X [] dNil := ⟨_, pk_nil, fun as σ ρ L H M P Q hE A h q => q [] [] L H M .refl A h .nil⟩
theorem pdk_cons (ha : PD X e te) (hr : PDK X kws td) : PDK X (⟨nm, e, kpos⟩ :: kws) (dCons te td) := by
  obtain ⟨u, p1, s⟩ := ha.ex
  obtain ⟨u2, p2, s'⟩ := hr.ex
  refine ⟨_, pk_cons p1 p2, ?_⟩
  intro as σ ρ L H M P Q hE A h q
  refine s as σ ρ L H M _ _ hE A h fun v d L1 H1 M1 s1 A1 h1 r1 => ?_
  exact s' as σ ρ L1 H1 M1 _ _ (hE.mono s1.k s1.pre) A1 h1 fun vs ds L2 H2 M2 s2 A2 h2 r2 => q _ _ L2 H2 M2 (s1.trans A1 s2) A2 h2 (.cons (r1.mono s2.k s2.pre) r2)
end
end Pd
set_option Elab.async false
set_option linter.all false
set_option maxRecDepth 100000
set_option maxHeartbeats 2000000
namespace Pd
open PySem PySem.Spec PyProof.Rows L2
/-- a def's promise where nothing is being shown -/
structure FnG (P : Program) (w : World) (K : PySem.W.Frag) (mg : Str → Option Value) (base : Heap) (k : Nat) (f : Addr) (fd : FuncData) (ps : List Str) (sp : Sp) : Prop where
  len : ∀ vs H Q E, sp vs H Q E → vs.length = ps.length
  run : ∀ (A : Around) (outer : List Env) (s : Shared) (H : Hp) (args : Args) (us : List Value) (vs : List V) (Q : VK) (E : XK), A.guards = some [] → Room k A → Env0 P w K mg base A outer s H → BindsTo s fd args (ps.zip us) → Vals vs us → sp vs H Q E →
    codeAny (model P w) A (.call (.ref f) args) (CR CX0 outer P w H s Q E) s
theorem FnG.of {P : Program} {w : World} {K : PySem.W.Frag} {mg : Str → Option Value} {base : Heap} {k : Nat} {f : Addr} {fd : FuncData} {ps : List Str} {sp : Sp} (F : FnOk P w K mg base CX0 k f fd ps sp) : FnG P w K mg base k f fd ps sp :=
  ⟨F.len, fun A outer s H args us vs Q E _ hr e0 hb r h => F.run A outer s H args us vs Q E hr e0 hb r h⟩
section
variable {P : Program} {w : World} {K : PySem.W.Frag} {mg : Str → Option Value} {base : Heap}
theorem fn_ofG {k : Nat} {f : Addr} {x qual : Str} {st : Stmt} {fd : FuncData} {N ps : List Str} {sp : Sp} (F : Fun K x qual st f fd) (S : FnScope N ps (defScope st)) (len : ∀ vs H Q E, sp vs H Q E → vs.length = ps.length)
    (hbody : ∀ (cdv : Value) (A : Around) (outer : List Env) (s : Shared) (H : Hp) (vs : List V) (Q : VK) (E : XK), A.guards = some [] → Room k (A.deeper (envOfC qual (defScope st) s.heap.objs.size f cdv)) → sp vs H Q E →
      ∃ t, PSs (cxOf CX0 P w K mg base N qual (defScope st) f cdv A outer s H E).nox (defBody st) t ∧ t { nx := fun _ H' => Q .non H', rt := Q } (L2.start N vs) H) : FnG P w K mg base (k + 1) f fd ps sp := by
  obtain ⟨oc, od, kV, doc, pm, an, cdv, ct, osl, rfl, lk, hcd⟩ := F.ex
  refine ⟨len, fun A outer s H args us vs Q E hg hr e0 hb r hsp => ?_⟩
  have hl := len _ _ _ _ hsp
  have old : ∀ b o, base.get? b = some o → s.heap.get? b = some o := fun b o e => (e0.bs b o e).1
  have KX : K.In s.heap := e0.mod.kin.keeps old
  have lim : s.heap.NoLimit := e0.mod.nolimit.keeps old
  refine codeAny_call_function hr.depth (KX _ _ lk) rfl S.co S.gen rfl (PySem.W.codeRec_of KX hcd) (hb _ _ _ _ ?_)
  refine wpAny_newFunctionEnv_cells S.kind (fun ⟨n, v⟩ hy => ?_) fun env he s1 x => ?_
  · rcases S.par n (List.of_mem_zip hy).1 with q | q
    · exact .inl q
    · exact .inr ⟨q, PySem.W.cellsFrom_some _ _ _ (.inl q)⟩
  subst he
  refine ⟨lim.keeps x.toInCall.keep, codeAny_func ?_⟩
  obtain ⟨t, ht0, hq⟩ := hbody cdv A outer s H vs Q E hg (hr.deeper _) hsp
  have ht := ht0.nox
  have I : Inv (cxOf CX0 P w K mg base N qual (defScope st) f cdv A outer s H E) [] (L2.start N vs) H s1 := inv_start S hr.hd e0 hl r x
  refine wpAny_mono (ht.run [] s1 (L2.start N vs) H _ I hq) (fun fl s' hs => ?_) fun e s' hs => hs
  cases fl with
  | ret u =>
    obtain ⟨v, σ', H', J, rv, q⟩ := hs
    exact ⟨v, H', J.os, J.bare, J.base, J.hok, rv, q⟩
  | next =>
    obtain ⟨σ', H', J, q⟩ := hs
    exact ⟨V.non, H', J.os, J.bare, J.base, J.hok, rfl, q⟩
  | brk =>
    obtain ⟨_, _, _, q⟩ := hs
    exact False.elim q
  | cont =>
    obtain ⟨_, _, _, q⟩ := hs
    exact False.elim q
theorem pd_fnG {x qual : Str} {st : Stmt} {f : Addr} {fd : FuncData} {N ps : List Str} {k : Nat} {W : DC} (F : Fun K x qual st f fd) (S : FnScope N ps (defScope st))
    (hbody : ∀ (cdv : Value) (A : Around) (outer : List Env) (s : Shared) (H : Hp) (E : XK), A.guards = some [] → Room k (A.deeper (envOfC qual (defScope st) s.heap.objs.size f cdv)) →
      ∃ t, PDSs (cxOf CX0 P w K mg base N qual (defScope st) f cdv A outer s H E).nox (defBody st) t ∧ ∀ ds M Q, ds.length = ps.length → W ds M Q → t { nx := fun _ M' => Q .non M', rt := Q } (startD N ds) M) :
    FnG P w K mg base (k + 1) f fd ps (spD ps.length W K) := by
  refine fn_ofG F S (fun vs H Q E h => h.1) (fun cdv A outer s H vs Q E hg hr h => ?_)
  obtain ⟨hl, as, M, L, ds, P', r, A0, hw, q⟩ := h
  obtain ⟨t, ht, hb⟩ := hbody cdv A outer s H E hg hr
  obtain ⟨ts, pt, st'⟩ := ht.ex
  refine ⟨ts, pt, st' as (L2.start N vs) (startD N ds) L H M _ _ (en_start r) A0 (hb ds M P' (by rw [← r.length]; exact hl) hw) ⟨?_, ?_, ?_, ?_⟩⟩
  · exact fun σ' ρ' L' H' M' s1 A1 _ p => q .non .non L' H' M' s1 A1 p .non
  · exact fun v d L' H' M' s1 A1 p r => q v d L' H' M' s1 A1 p r
  · exact fun _ _ _ _ _ _ _ _ p => p.elim
  · exact fun _ _ _ _ _ _ _ _ p => p.elim
end
section
variable {X : Cx} {e : Expr} {es : List Expr} {tl : DA} {pos p : Pos}
theorem pd_callG {k : Nat} {f : Addr} {fd : FuncData} {ps : List Str} {n : Nat} {W : DC} {x : Str} (hgu : X.A.guards = some []) (F : FnG X.prog X.w X.K X.mg X.base k f fd ps (spD n W X.K)) (hr : Room k X.A) (hg : Gl X x) (hm : X.mg x = some (.ref f)) (hk : PySem.W.keepIn X.K (.ref f) = true)
    (hb : Binds X.K fd ps []) (ha : PDA X (e :: es) tl) (hdb : (x == ("__debug__" : Str)) = false := by decide) (he : starEach (e :: es) X.env = (false, eval e X.env) :: starEach es X.env := by rfl) (hpl : (backTo pos (starEach es X.env)).any (·.1) = false := by rfl) :
    PD X (.Call (.Name x p) (e :: es) [] pos) (dCall n W tl) := by
  obtain ⟨u, pa, sa⟩ := ha.ex
  refine ⟨tCall (spD n W X.K) [] E0 u, ⟨fun pins s σ H Q I h => ?_⟩, sim_call sa⟩
  refine wpAny_Call_Name_kw (ld_glob I hg hm ?_ hdb)
  refine PySem.W.callWith_K (h₀ := X.base) I.ok.mod.kin hk (thn (pa.run pos pins s σ H _ I h) fun us s1 ⟨vs, H1, I1, r, q⟩ => ⟨I1.kIn, ?_⟩) he hpl
  have q' : spD n W X.K vs H1 Q E0 := by
    have q2 : spD n W X.K (vs ++ []) H1 Q E0 := q
    rwa [List.append_nil] at q2
  have hl : us.length = ps.length := by rw [← r.length]; exact F.len _ _ _ _ q'
  refine wpAny_call (codeAny_mono (F.run X.A X.stack s1 H1 ⟨us, []⟩ us vs Q E0 hgu hr I1.env0 (by simpa using hb s1 us I1.kIn (by simpa using hl)) r q') fun r s' hq => ?_)
  cases r with
  | error e => exact False.elim hq
  | ok fl =>
    cases fl with
    | ret u => exact I1.after hq
    | next => exact False.elim hq
    | brk => exact False.elim hq
    | cont => exact False.elim hq
end
mutual
/-- data that repr may read -/
def plainR : D → Bool
  | .non => true | .bl _ => true | .int _ => true | .str _ => true
  | .lst ds => plainRA ds | .tup ds => plainRA ds | .dic _ ds => plainRA ds
  | _ => false
def plainRA : List D → Bool
  | [] => true
  | d :: ds => plainR d && plainRA ds
end
section
variable {X : Cx} {pins : List (Addr × Obj)} {σ : L2.St} {H L : Hp} {s : Shared} {as : List Addr}
/-- it is read, and shown -/
def ShO (X : Cx) (h : Heap) (u : Value) (p : PyData) : Prop := (∃ rs, Reads h u p rs) ∧ ∃ bs, ReadAtMost h p.depth bs ∧ ReprK X.prog X.w bs h p.depth u p.shown
def ShA (X : Cx) (h : Heap) (us : List Value) (ps : List PyData) : Prop := (∃ rs, ReadsAll h us ps rs) ∧ ∃ bs, ReadAtMost h (PyData.depthAll ps) bs ∧ ReprAllK X.prog X.w bs h (PyData.depthAll ps) us (PyData.shownAll ps)
theorem ShA.nil {h : Heap} : ShA X h [] [] := ⟨⟨_, .nil⟩, [], (fun _ z => nomatch z), by simp only [PyData.shownAll]; exact .nil⟩
theorem ShA.cons {h : Heap} {u : Value} {us : List Value} {p : PyData} {ps : List PyData} (a : ShO X h u p) (b : ShA X h us ps) : ShA X h (u :: us) (p :: ps) := by
  obtain ⟨⟨r1, e1⟩, b1, m1, k1⟩ := a
  obtain ⟨⟨r2, e2⟩, b2, m2, k2⟩ := b
  refine ⟨⟨_, .cons e1 e2⟩, b1 ++ b2, ?_, ?_⟩
  · show ReadAtMost h (max p.depth (PyData.depthAll ps)) _
    exact (m1.mono (Nat.le_max_left _ _)).append (m2.mono (Nat.le_max_right _ _))
  · show ReprAllK X.prog X.w (b1 ++ b2) h (max p.depth (PyData.depthAll ps)) _ (p.shown :: PyData.shownAll ps)
    have s1 : ∀ b ∈ b1, b ∈ b1 ++ b2 := fun b hb => List.mem_append_left _ hb
    have s2 : ∀ b ∈ b2, b ∈ b1 ++ b2 := fun b hb => List.mem_append_right _ hb
    exact .cons ((k1.more s1).level_le (Nat.le_max_left _ _)) (k2.more_le s2 (Nat.le_max_right _ _))
theorem keyP_sh {h : Heap} {k : Key} {u : Value} (e : (mixKind X.prog X.w).is k u = true) (hs : (keyP k).showable = true) (hz : (keyP k).shown.length ≤ sizeLine) : ShO X h u (keyP k) := by
  rcases keyIs_shape e with ⟨i, t, rfl, rfl⟩ | ⟨x, t, rfl, rfl⟩
  · exact ⟨⟨_, .int i t⟩, [], (fun _ z => nomatch z), .of_is (ReprIs.int t (of_decide_eq_true hs)) _ _ _⟩
  · exact ⟨⟨_, .str x t⟩, [], (fun _ z => nomatch z), .of_is (ReprIs.str x t hz) _ _ _⟩
theorem toPA_len : ∀ ds : List D, (toPA ds).length = ds.length
  | [] => rfl
  | _ :: ds => congrArg (· + 1) (toPA_len ds)
theorem keys_sh {h : Heap} : ∀ {es : List DictEntry} {vs0 : List (Key × Value)}, Pairs (mixKind X.prog X.w) es vs0 → PyData.showableAll (vs0.map fun p => keyP p.1) = true → (∀ t ∈ PyData.shownAll (vs0.map fun p => keyP p.1), t.length ≤ sizeLine) →
    ShA X h (es.map fun e => e.key) (vs0.map fun p => keyP p.1)
  | _, _, .nil, _, _ => .nil
  | _, _, .cons a b c, hs, hz => by
    have hs' := Bool.and_eq_true_iff.mp hs
    exact .cons (keyP_sh a hs'.1 (hz _ List.mem_cons_self)) (keys_sh c hs'.2 fun t ht => hz t (List.mem_cons_of_mem _ ht))
theorem vals_of_pairs : ∀ {es : List DictEntry} {vs0 : List (Key × Value)}, Pairs (mixKind X.prog X.w) es vs0 → es.map (fun e => e.val) = vs0.map fun p => p.2
  | _, _, .nil => rfl
  | _, _, .cons a b c => by rw [List.map_cons, List.map_cons, b, vals_of_pairs c]
theorem kv_keys {ks : List Key} {vs : List V} {vs0 : List (Key × Value)} (hl : ks.length = vs.length) (r : KV (ks.zip vs) vs0) : (vs0.map fun p => p.1) = ks ∧ Vals vs (vs0.map fun p => p.2) := by
  induction ks generalizing vs vs0 with
  | nil =>
    cases vs with
    | nil => cases r; exact ⟨rfl, .nil⟩
    | cons v vs => cases hl
  | cons k ks ih =>
    cases vs with
    | nil => cases hl
    | cons v vs =>
      cases r with
      | cons q t =>
        obtain ⟨h1, h2⟩ := ih (Nat.succ.inj hl) t
        exact ⟨by rw [List.map_cons, h1, ← q.1], .cons q.2 h2⟩
theorem zip_fst : ∀ (ks : List PyData) (ps : List PyData), ks.length = ps.length → (ks.zip ps).map (·.1) = ks
  | [], _, _ => by rw [List.zip_nil_left]; rfl
  | k :: ks, [], h => by cases h
  | k :: ks, p :: ps, h => by rw [List.zip_cons_cons, List.map_cons, zip_fst ks ps (Nat.succ.inj h)]
theorem zip_snd : ∀ (ks : List PyData) (ps : List PyData), ks.length = ps.length → (ks.zip ps).map (·.2) = ps
  | [], [], _ => rfl
  | [], p :: ps, h => by cases h
  | k :: ks, [], h => by cases h
  | k :: ks, p :: ps, h => by rw [List.zip_cons_cons, List.map_cons, zip_snd ks ps (Nat.succ.inj h)]
theorem ShO.lst {h : Heap} {a : Addr} {o : Obj} {n : Nat} {us : List Value} {ps : List PyData} (ho : h.get? a = some o) (hc : o.cls = .type "list") (hd : o.data = .seq us.toArray n) (x : ShA X h us ps) : ShO X h (.ref a) (.list ps) := by
  obtain ⟨⟨rs, r⟩, bs, m, k⟩ := x
  have r' : Reads h (.ref a) (.list ps) (a :: rs) := .list ho hc hd r
  have lt : PyData.depthAll ps < (PyData.list ps).depth := by simp only [PyData.depth]; omega
  refine ⟨⟨_, r'⟩, a :: bs, ReadAtMost.cons r' (Nat.le_of_lt lt) m, ?_⟩
  show ReprK X.prog X.w (a :: bs) h (PyData.depthAll ps + 1) (.ref a) (listText (PyData.shownAll ps))
  cases us with
  | nil =>
    cases r
    have e0 : listText (PyData.shownAll []) = ("[]" : Str) := listText_nil
    rw [e0]
    exact ReprK.listEmpty ho hc hd
  | cons u us => exact ReprK.list ho hc hd (not_mem_of_deeper r' lt m) (by simpa using k.length_eq) fun i y e => k.item i y (by simpa using e)
theorem ShO.tup {h : Heap} {a : Addr} {o : Obj} {n : Nat} {us : List Value} {ps : List PyData} (ho : h.get? a = some o) (hc : o.cls = .type "tuple") (hd : o.data = .seq us.toArray n) (x : ShA X h us ps) : ShO X h (.ref a) (.tuple ps) := by
  obtain ⟨⟨rs, r⟩, bs, m, k⟩ := x
  have r' : Reads h (.ref a) (.tuple ps) rs := .tuple ho hc hd r
  have lt : PyData.depthAll ps < (PyData.tuple ps).depth := by simp only [PyData.depth]; omega
  exact ⟨⟨_, r'⟩, a :: bs, ReadAtMost.cons r' (Nat.le_of_lt lt) m, ReprK.tuple ho hc hd (not_mem_of_deeper r' lt m) k⟩
theorem ShO.dic {h : Heap} {a : Addr} {o : Obj} {es : Array DictEntry} {n : Nat} {kvs : List (PyData × PyData)} (ho : h.get? a = some o) (hc : o.cls = .type "dict") (hd : o.data = .dict es n) (hs : (a == sysModules) = false)
    (x : ShA X h (es.toList.map fun e => e.key) (kvs.map (·.1))) (y : ShA X h (es.toList.map fun e => e.val) (kvs.map (·.2))) : ShO X h (.ref a) (.dict kvs) := by
  obtain ⟨⟨rs, r⟩, bs, m, k⟩ := x
  obtain ⟨⟨rs2, r2⟩, bs2, m2, k2⟩ := y
  have r' : Reads h (.ref a) (.dict kvs) (a :: rs ++ rs2) := .dict ho hc hd r r2
  have lt : PyData.depthKv kvs < (PyData.dict kvs).depth := by simp only [PyData.depth]; omega
  have l1 := PyData.depthAll_keys_le kvs
  have l2 := PyData.depthAll_vals_le kvs
  have mm := (m.mono l1).append (m2.mono l2)
  have s1 : ∀ b ∈ bs, b ∈ bs ++ bs2 := fun b hb => List.mem_append_left _ hb
  have s2 : ∀ b ∈ bs2, b ∈ bs ++ bs2 := fun b hb => List.mem_append_right _ hb
  refine ⟨⟨_, r'⟩, a :: (bs ++ bs2), ReadAtMost.cons r' (Nat.le_of_lt lt) mm, ?_⟩
  show ReprK X.prog X.w (a :: (bs ++ bs2)) h (PyData.depthKv kvs + 1) (.ref a) (dictText (PyData.shownKv kvs))
  rw [PyData.shownKv_eq]
  exact ReprK.dict ho hc hd hs (not_mem_of_deeper r' lt mm) (ReprEntriesK.of_two es.toList _ _ (k.more_le s1 l1) (k2.more_le s2 l2))
mutual
theorem Rp.sh (I : Inv X pins σ H s) (ex : Ex L H) : ∀ (d : D) (v : V) (u : Value), Rp X.K as L v d → plainR d = true → (toP d).showable = true → (toP d).shown.length ≤ sizeLine → RelV v u → ShO X s.heap u (toP d)
  | .non, _, _, h, _, _, _, r => by cases h; cases r; exact ⟨⟨_, .none⟩, [], (fun _ z => nomatch z), .of_is ReprIs.none _ _ _⟩
  | .bl b, _, _, h, _, _, _, r => by cases h; cases r; exact ⟨⟨_, .bool b⟩, [], (fun _ z => nomatch z), .of_is (ReprIs.bool b) _ _ _⟩
  | .int i, _, _, h, _, hs, _, r => by
    cases h
    obtain ⟨t, rfl⟩ := r
    exact ⟨⟨_, .int i t⟩, [], (fun _ z => nomatch z), .of_is (ReprIs.int t (of_decide_eq_true hs)) _ _ _⟩
  | .str x, _, _, h, _, _, hz, r => by
    cases h
    obtain ⟨t, rfl⟩ := r
    exact ⟨⟨_, .str x t⟩, [], (fun _ z => nomatch z), .of_is (ReprIs.str x t hz) _ _ _⟩
  | .lst ds, _, _, h, p, hs, hz, r => by
    cases h with
    | lst h1 ra =>
      cases r
      obtain ⟨its, rv, ⟨o, n, ho, hc, _, hd⟩, _⟩ := I.list (ex_l ex h1)
      exact ShO.lst ho hc hd (RpA.sh I ex ds _ its ra p hs (fun t ht => Nat.le_trans (listText_mem_le ht) hz) rv)
  | .tup ds, _, _, h, p, hs, hz, r => by
    cases h with
    | tup h1 ra =>
      cases r
      obtain ⟨its, rv, ⟨o, ho, hc, n, hd⟩, _⟩ := I.tuple (ex_t ex h1)
      exact ShO.tup ho hc hd (RpA.sh I ex ds _ its ra p hs (fun t ht => Nat.le_trans (tupleText_mem_le ht) hz) rv)
  | .dic ks ds, _, _, h, p, hs, hz, r => by
    cases h with
    | dic h1 hl ra =>
      cases r
      obtain ⟨_, hsys, vs0, kv, o, es, ep, ho, hex, hd, _, hp, _⟩ := dk_rd I.hok (ex_rd ex (.inr h1))
      obtain ⟨e1, rv⟩ := kv_keys hl kv
      have e2 : (vs0.map fun p => keyP p.1) = ks.map keyP := by rw [← e1, List.map_map]; rfl
      have hlen : (ks.map keyP).length = (toPA ds).length := by rw [List.length_map, toPA_len, hl, ra.length]
      have f1 := zip_fst _ _ hlen
      have f2 := zip_snd _ _ hlen
      obtain ⟨s1, s2⟩ := PyData.showableKv_split _ hs
      rw [f1] at s1
      rw [f2] at s2
      have z1 : ∀ t ∈ PyData.shownAll (ks.map keyP), t.length ≤ sizeLine := fun t ht => by
        obtain ⟨q, hq, hl⟩ := PyData.shownKv_key_le ((ks.map keyP).zip (toPA ds)) t (by rw [f1]; exact ht)
        exact Nat.le_trans hl (Nat.le_trans (dictText_mem_le hq) hz)
      have z2 : ∀ t ∈ PyData.shownAll (toPA ds), t.length ≤ sizeLine := fun t ht => by
        obtain ⟨q, hq, hl⟩ := PyData.shownKv_val_le ((ks.map keyP).zip (toPA ds)) t (by rw [f2]; exact ht)
        exact Nat.le_trans hl (Nat.le_trans (dictText_mem_le hq) hz)
      refine ShO.dic ho hex.1 hd hsys ?_ ?_
      · rw [f1, ← e2]
        exact keys_sh hp (by rw [e2]; exact s1) (by rw [e2]; exact z1)
      · rw [f2, vals_of_pairs hp]
        exact RpA.sh I ex ds _ _ ra p s2 z2 rv
theorem RpA.sh (I : Inv X pins σ H s) (ex : Ex L H) : ∀ (ds : List D) (vs : List V) (us : List Value), RpA X.K as L vs ds → plainRA ds = true → PyData.showableAll (toPA ds) = true → (∀ t ∈ PyData.shownAll (toPA ds), t.length ≤ sizeLine) → Vals vs us → ShA X s.heap us (toPA ds)
  | [], _, _, h, _, _, _, r => by cases h; cases r; exact .nil
  | d :: ds, _, _, h, p, hs, hz, r => by
    cases h with
    | cons h1 h2 =>
      cases r with
      | cons r1 r2 =>
        have p' := Bool.and_eq_true_iff.mp p
        have hs' := Bool.and_eq_true_iff.mp hs
        exact .cons (Rp.sh I ex d _ _ h1 p'.1 hs'.1 (hz _ List.mem_cons_self) r1) (RpA.sh I ex ds _ _ h2 p'.2 hs'.2 (fun t ht => hz t (List.mem_cons_of_mem _ ht)) r2)
end
end
def reprD (d : D) : Str := (toP d).shown
/-- data whose repr is told -/
structure Shows (d : D) : Prop where
  pl : plainR d = true
  sh : (toP d).showable = true
  sz : (reprD d).length ≤ sizeLine
  dp : (toP d).depth ≤ 60
section
variable {X : Cx}
def rReprD (K : PySem.W.Frag) : List V → Hp → VK → Prop := fun xs H Q => ∃ x d as L, xs = [x] ∧ Ex L H ∧ Rp K as L x d ∧ Shows d ∧ Q (.str (reprD d)) H
theorem call_repr (hgu : X.A.guards = some []) (hu : X.A.units + 64 < cLine) : CallR X (.builtin "repr") (rReprD X.K) := by
  intro pins s σ H xs us Q I r h
  obtain ⟨x, d, as, L, rfl, ex, rp, sw, q⟩ := h
  obtain ⟨u, rfl, rx⟩ := vals1 r
  have fin : ∀ (h' : Heap) (w1 : Tok) (tk : Nat), (∀ b o, s.heap.get? b = some o → h'.get? b = some o) → EP X pins σ Q (.str (reprD d) w1) { s with heap := h', toks := tk } := fun h' w1 tk hk => ⟨.str (reprD d), H, I.kept (t' := tk) hk, ⟨w1, rfl⟩, q⟩
  have hz : (toP d).shown.length ≤ sizeLine := sw.sz
  have hdp := sw.dp
  have go : ∀ (a : Addr) (T idr : String), u = .ref a → s.TypeIs (.ref a) T → SlotG T "__repr__" idr →
      wpAny (model X.prog X.w) X.A.in1 (call (.builtin idr) [.ref a]) (fun r s₁ => ∃ x t, r = .str x t ∧ EP X pins σ Q r s₁) X.xe s → wpAny (model X.prog X.w) X.A (call (.builtin "repr") [u]) (EP X pins σ Q) X.xe s := by
    intro a T idr e hT hS hc
    subst e
    exact call_repr_slot (by omega) hT hS hc
  have hun : ∀ n : Nat, n < 61 → X.A.in1.units + n < cLine := fun n hn => by show X.A.units + 1 + n < cLine; omega
  cases d with
  | non =>
    cases rp
    cases (show u = Value.none from rx)
    exact PySem.P.repr_of_none ⟨.str _, H, I.tok _, ⟨_, rfl⟩, q⟩
  | bl b =>
    cases rp
    cases (show u = Value.bool b from rx)
    exact PySem.P.repr_of_bool ⟨.str _, H, I.tok _, ⟨_, by cases b <;> rfl⟩, q⟩
  | int i =>
    cases rp
    obtain ⟨t, rfl⟩ := (show ∃ t, u = Value.int i t from rx)
    exact PySem.P.repr_of_int (of_decide_eq_true sw.sh) ⟨.str _, H, I.tok _, ⟨_, rfl⟩, q⟩
  | str y =>
    cases rp
    obtain ⟨t, rfl⟩ := (show ∃ t, u = Value.str y t from rx)
    exact PySem.P.repr_of_str ⟨.str _, H, I.tok _, ⟨_, rfl⟩, q⟩ hz
  | lst ds =>
    cases rp with
    | lst h1 ra =>
      cases rx
      obtain ⟨its, rv, ⟨o, n, ho, hc, _, hd⟩, _⟩ := I.list (ex_l ex h1)
      have x := RpA.sh I ex ds _ its ra sw.pl sw.sh (fun t ht => Nat.le_trans (listText_mem_le ht) hz) rv
      obtain ⟨⟨rs, r1⟩, bs, m, k⟩ := x
      have r' : Reads s.heap (.ref _) (.list (toPA ds)) _ := .list ho hc hd r1
      have lt : PyData.depthAll (toPA ds) < (PyData.list (toPA ds)).depth := by simp only [PyData.depth]; omega
      have hd60 : PyData.depthAll (toPA ds) + 1 ≤ 60 := hdp
      refine go _ "list" "list.__repr__" rfl ⟨o, ho, hc⟩ F.slot_list_repr.toG ?_
      cases its with
      | nil =>
        have eds : toPA ds = [] := by
          clear k m lt hd60 r'
          revert r1
          generalize toPA ds = ps
          intro r1
          cases r1
          rfl
        have er : reprD (.lst ds) = ("[]" : Str) := by show listText (PyData.shownAll (toPA ds)) = _; rw [eds]; exact listText_nil
        refine call_list_repr_empty ⟨o, ho, hc⟩ ho hd ⟨_, _, rfl, ?_⟩
        rw [er] at fin
        exact fin s.heap _ _ fun _ _ e => e
      | cons y its =>
        exact call_list_reprK ho hc hd (not_mem_of_deeper r' lt m) (by simpa using k.length_eq) (fun i y e => k.item i y (by simpa using e)) hgu (fun b _ => Clear.nil b) (hun _ (by omega)) (fun _ _ e => e)
          (fun h' w1 tk hk => ⟨_, _, rfl, fin h' w1 tk hk⟩) hz
  | tup ds =>
    cases rp with
    | tup h1 ra =>
      cases rx
      obtain ⟨its, rv, ⟨o, ho, hc, n, hd⟩, _⟩ := I.tuple (ex_t ex h1)
      have x := RpA.sh I ex ds _ its ra sw.pl sw.sh (fun t ht => Nat.le_trans (tupleText_mem_le ht) hz) rv
      obtain ⟨⟨rs, r1⟩, bs, m, k⟩ := x
      have r' : Reads s.heap (.ref _) (.tuple (toPA ds)) _ := .tuple ho hc hd r1
      have lt : PyData.depthAll (toPA ds) < (PyData.tuple (toPA ds)).depth := by simp only [PyData.depth]; omega
      have hd60 : PyData.depthAll (toPA ds) + 1 ≤ 60 := hdp
      exact go _ "tuple" "tuple.__repr__" rfl ⟨o, ho, hc⟩ F.slot_tuple_repr (call_tuple_reprK ho hc hd (not_mem_of_deeper r' lt m) k hgu (fun b _ => Clear.nil b) (hun _ (by omega)) (fun _ _ e => e)
          (fun h' w1 tk hk => ⟨_, _, rfl, fin h' w1 tk hk⟩) hz)
  | dic ks ds =>
    have x0 := Rp.sh I ex (.dic ks ds) _ _ rp sw.pl sw.sh hz rx
    cases rp with
    | dic h1 hl ra =>
      cases rx
      obtain ⟨_, hsys, vs0, kv, o, es, ep, ho, hex, hd, _, hp, _⟩ := dk_rd I.hok (ex_rd ex (.inr h1))
      obtain ⟨⟨rs, r1⟩, _⟩ := x0
      obtain ⟨e1, rv⟩ := kv_keys hl kv
      have e2 : (vs0.map fun p => keyP p.1) = ks.map keyP := by rw [← e1, List.map_map]; rfl
      have hlen : (ks.map keyP).length = (toPA ds).length := by rw [List.length_map, toPA_len, hl, ra.length]
      have f1 := zip_fst _ _ hlen
      have f2 := zip_snd _ _ hlen
      obtain ⟨s1, s2⟩ := PyData.showableKv_split _ sw.sh
      rw [f1] at s1
      rw [f2] at s2
      have z1 : ∀ t ∈ PyData.shownAll (ks.map keyP), t.length ≤ sizeLine := fun t ht => by
        obtain ⟨q, hq, hl⟩ := PyData.shownKv_key_le ((ks.map keyP).zip (toPA ds)) t (by rw [f1]; exact ht)
        exact Nat.le_trans hl (Nat.le_trans (dictText_mem_le hq) hz)
      have z2 : ∀ t ∈ PyData.shownAll (toPA ds), t.length ≤ sizeLine := fun t ht => by
        obtain ⟨q, hq, hl⟩ := PyData.shownKv_val_le ((ks.map keyP).zip (toPA ds)) t (by rw [f2]; exact ht)
        exact Nat.le_trans hl (Nat.le_trans (dictText_mem_le hq) hz)
      have xk : ShA X s.heap (es.toList.map fun e => e.key) (ks.map keyP) := by
        rw [← e2]
        exact keys_sh hp (by rw [e2]; exact s1) (by rw [e2]; exact z1)
      have xv : ShA X s.heap (es.toList.map fun e => e.val) (toPA ds) := by
        rw [vals_of_pairs hp]
        exact RpA.sh I ex ds _ _ ra sw.pl s2 z2 rv
      obtain ⟨_, b1, m1, k1⟩ := xk
      obtain ⟨_, b2, m2, k2⟩ := xv
      have l1 := PyData.depthAll_keys_le ((ks.map keyP).zip (toPA ds))
      have l2 := PyData.depthAll_vals_le ((ks.map keyP).zip (toPA ds))
      rw [f1] at l1
      rw [f2] at l2
      have lt : PyData.depthKv ((ks.map keyP).zip (toPA ds)) < (toP (.dic ks ds)).depth := by simp only [toP, PyData.depth]; omega
      have mm := (m1.mono l1).append (m2.mono l2)
      have t1 : ∀ b ∈ b1, b ∈ b1 ++ b2 := fun b hb => List.mem_append_left _ hb
      have t2 : ∀ b ∈ b2, b ∈ b1 ++ b2 := fun b hb => List.mem_append_right _ hb
      have hd60 : PyData.depthKv ((ks.map keyP).zip (toPA ds)) + 1 ≤ 60 := hdp
      have et : reprD (.dic ks ds) = dictText (List.zipWith (fun k v : Str => k ++ ": " ++ v) (PyData.shownAll (ks.map keyP)) (PyData.shownAll (toPA ds))) := by
        show dictText (PyData.shownKv _) = _
        rw [PyData.shownKv_eq, f1, f2]
      have hz3 : (reprD (.dic ks ds)).length ≤ sizeLine := hz
      rw [et] at fin hz3
      exact go _ "dict" "dict.__repr__" rfl ⟨o, ho, hex.1⟩ F.slot_dict_repr (call_dict_reprK ho hex.1 hd hsys (not_mem_of_deeper r1 lt mm) (ReprEntriesK.of_two es.toList _ _ (k1.more_le t1 l1) (k2.more_le t2 l2)) hgu (fun b _ => Clear.nil b) (hun _ (by omega)) (fun _ _ e => e)
          (fun h' w1 tk hk => ⟨_, _, rfl, fin h' w1 tk hk⟩) hz3)
  | _ => cases sw.pl
end
@[simp] def oRepr : DC := fun xs M P => ∃ d, xs = [d] ∧ Shows d ∧ P (.str (reprD d)) M
theorem sc_repr {K : PySem.W.Frag} : SimC K (rReprD K) oRepr := by
  intro as L H M xs ds P Q A r ⟨d, h, hs, p⟩ q
  subst h
  cases r with
  | cons r1 r2 =>
    cases r2
    exact ⟨_, d, as, L, rfl, A.low, r1, hs, q _ _ L H M .refl A p (.str _)⟩
theorem law_callG {P : Program} {w : World} {K : PySem.W.Frag} {mg mb : Str → Option Value} {k : Nat} {fa a : Addr} {fd : FuncData} {x : Str} {sp : Sp} {s₁ : Shared} {vs : List Value} {ns : List Int}
    (KX : K.In s₁.heap) (hns : s₁.heap.Ns mainGlobals mg) (hb : s₁.heap.Ns builtinsNs mb) (hbb : ∀ x : Str, x ≠ "__name__" → mb x = bootBuiltins x) (hlim : s₁.heap.NoLimit) (hg : s₁.gens = #[])
    (ha : s₁.heap.get? a = some { cls := .type "list", data := .seq vs.toArray }) (hi : IntsAre vs ns) (hl : ns.length ≤ sizeLine) (hr : Room k callerA)
    (F : ∀ base : Heap, K.In base → base.Ns mainGlobals mg → FnG P w K mg base k fa fd [x] sp) (hbind : ∀ (s : Shared) (u : Value), BindsTo s fd ⟨[u], []⟩ [(x, u)])
    (hsp : ∀ H : Hp, Only H → SqL K H a (ns.map V.int) → sp [.ref a] H (fun v _ => v = .bl true) E0) :
    codeAny (model P w) callerA (.call (.ref fa) ⟨[.ref a], []⟩) (fun r s' => r = .ok (.ret (.bool true)) ∧ OldK s₁.heap s'.heap ∧ s'.os = s₁.os ∧ AllBare s'.gens) s₁ := by
  have rv := vals_ints hi
  have lenV := hi.length
  have core : ∀ H : Hp, Only H → SqL K H a (ns.map V.int) → HOk P w H s₁.heap → (∀ b, H b ≠ none → b = a) → (H a ≠ none → K.lookup a = none) →
      codeAny (model P w) callerA (.call (.ref fa) ⟨[.ref a], []⟩) (fun r s' => r = .ok (.ret (.bool true)) ∧ OldK s₁.heap s'.heap ∧ s'.os = s₁.os ∧ AllBare s'.gens) s₁ := by
    intro H hO hS hok hA hK
    have isA : ∀ {b : Addr}, H b ≠ none → b = a := fun {b} n => hA b n
    have base_of : ∀ {b : Addr} {o : Obj}, s₁.heap.get? b = some o → H b = none → (hidT s₁.heap H).get? b = some o := fun e n => hidT_get e n
    have noA : ∀ {b : Addr} {o : Obj} {es : Array DictEntry} {ep : Nat}, s₁.heap.get? b = some o → o.data = .dict es ep → H b = none := fun {b o es ep} e d => by
      by_cases n : H b = none
      · exact n
      · have e' := isA n
        subst e'
        rw [ha] at e; cases e
        cases (show Data.seq vs.toArray _ = Data.dict es ep from d)
    have nsK : ∀ {b : Addr} {m : Str → Option Value}, s₁.heap.Ns b m → (hidT s₁.heap H).Ns b m := fun {b m} ⟨o, es, ep, e, d, r⟩ => ⟨o, es, ep, base_of e (noA e d), d, r⟩
    have hKb : K.In (hidT s₁.heap H) := fun b o e => base_of (KX b o e) (by
      by_cases n : H b = none
      · exact n
      · have e' := isA n
        subst e'
        rw [hK n] at e; cases e)
    have hM : Mod K mg (hidT s₁.heap H) := ⟨hKb, nsK hns, ⟨mb, nsK hb, hbb⟩, let ⟨mc, h1, h2⟩ := hlim; ⟨mc, nsK h1, h2⟩⟩
    have e0 : Env0 P w K mg (hidT s₁.heap H) callerA [] s₁ H := ⟨rfl, hM, fun b o e => of_hidT e, Nat.le_of_eq (hidT_size _ _), trivial, fun b hb => absurd (show b ∈ ([] : List Addr) from hb) (by simp), hok, .of_eq hg⟩
    refine codeAny_mono ((F _ hKb (nsK hns)).run callerA [] s₁ H ⟨[.ref a], []⟩ [.ref a] [.ref a] _ _ rfl hr e0 (hbind s₁ (.ref a)) (.cons rfl .nil) (hsp H hO hS)) fun r s' h => ?_
    match r, h with
    | .error e, h => exact False.elim h
    | .ok .next, h => exact False.elim h
    | .ok .brk, h => exact False.elim h
    | .ok .cont, h => exact False.elim h
    | .ok (.ret u), h =>
      obtain ⟨v, H', os, bare, un, hok', r', q⟩ := h
      obtain rfl : v = .bl true := q
      obtain rfl : u = Value.bool true := r'
      refine ⟨rfl, OldK.of_keep fun b o e => ?_, os, bare⟩
      by_cases n : H b = none
      · exact un.keep b o e n (by intro z; exact absurd (show b ∈ ([] : List Addr) from z) (by simp)) (by simp)
      · rcases hO b with z | ⟨ob, xs, z⟩
        · exact absurd z n
        · have z2 := un.frzs b ob _ z
          obtain ⟨e1, _⟩ := hok b _ z
          obtain ⟨e2, _⟩ := hok' b _ z2
          rw [e] at e1; cases e1
          exact e2
  cases hk : K.lookup a with
  | some o =>
    have e := KX a o hk
    rw [ha] at e
    cases e
    exact core (fun _ => none) (fun _ => .inl rfl) (.inr ⟨_, vs.toArray, _, hk, rfl, rfl, rfl, by rw [List.size_toArray, lenV]; exact hl, by simpa using rv⟩) (fun b u z => by cases (show (none : Option HO) = some u from z)) (fun b z => absurd rfl z) fun z => absurd rfl z
  | none =>
    refine core (fun b => if b = a then some (.frz { cls := .type "list", data := .seq vs.toArray } (.lst (ns.map V.int))) else none) (fun b => ?_) (.inl (.inr ⟨{ cls := .type "list", data := .seq vs.toArray }, if_pos rfl⟩)) (fun b u z => ?_) (fun b z => ?_) fun _ => hk
    · by_cases hb : b = a
      · exact .inr ⟨_, _, if_pos hb⟩
      · exact .inl (if_neg hb)
    · by_cases hb : b = a
      · have z' := (if_pos hb).symm.trans z
        cases z'
        subst hb
        exact ⟨ha, by rw [List.length_map]; exact hl, vs, _, rv, ha⟩
      · cases (if_neg hb).symm.trans z
    · by_cases hb : b = a
      · exact hb
      · exact absurd (if_neg hb) z
theorem walk_ofG {l : PySem.W.OpenLaw} {n k : Nat} {q : Program} {loose : List Str} {XP : (Str → Option Value) → Heap → Prop} {YP : World → Heap → Prop} {d : DefRec} {K : Params → PySem.W.Frag} {sp : World → Sp} {x : Str}
    (hn : l.most = some n) (hn2 : n ≤ sizeLine) (hdf : d.params.defaults = []) (hr : Room k callerA) (hY : ∀ (w : World) (h : Heap), YP w h → (K w.params).In h)
    (F : ∀ (w : World) (mg : Str → Option Value) (fa : Addr) (h : Heap), (K w.params).In h → h.Ns mainGlobals mg → mg d.name = some (.ref fa) →
      ∃ fd : FuncData, (∀ (s : Shared) (u : Value), BindsTo s fd ⟨[u], []⟩ [(x, u)]) ∧ ∀ base : Heap, (K w.params).In base → base.Ns mainGlobals mg → FnG l.prog w (K w.params) mg base k fa fd [x] (sp w))
    (hsp : ∀ (w : World) (H : Hp) (a : Addr) (ns : List Int), ns.length ≤ n → Only H → SqL (K w.params) H a (ns.map V.int) → sp w [.ref a] H (fun v _ => v = .bl true) E0) :
    PySem.W.WalkO q loose XP YP l.row.toRowW d [] (fun f vs => PySem.call f vs) := by
  refine Att.attach_call hn hdf fun w s₀ s₁ mg mb fa o pm cd doc a vs ns G Y ho hd hcd hmg hobj hints hlen hg => ?_
  have KX := hY w _ Y
  obtain ⟨fd, hb, hF⟩ := F w mg fa _ KX G.T.g hmg
  exact law_callG KX G.T.g G.T.b G.T.builtins G.T.nolimit hg hobj hints (Nat.le_trans hlen hn2) hr hF hb fun H hO hS => hsp w H a ns hlen hO hS
end Pd
set_option Elab.async false
set_option linter.all false
set_option maxRecDepth 100000
set_option maxHeartbeats 2000000
namespace Pd
open PySem PySem.Spec PyProof.Rows L2
section
variable {X : Cx} {e b : Expr} {es : List Expr} {pos p tpos lpos : Pos} {elts : List Expr} {kk : Nat} {tl : DA} {tb : DE}
/-- the items with their places -/
def numd : Nat → List D → List D
  | _, [] => []
  | i, d :: ds => .tup [.int (i : Int), d] :: numd (i + 1) ds
theorem numd_len : ∀ (ds : List D) (i : Nat), (numd i ds).length = ds.length
  | [], _ => rfl
  | d :: ds, i => congrArg (· + 1) (numd_len ds (i + 1))
theorem numd_get : ∀ (ds : List D) (i j : Nat) (d : D), ds[j]? = some d → (numd i ds)[j]? = some (.tup [.int ((i + j : Nat) : Int), d])
  | [], _, _, _, h => by simp at h
  | x :: xs, i, 0, d, h => by simp at h; subst h; rfl
  | x :: xs, i, j + 1, d, h => by
    have := numd_get xs (i + 1) j d (by simpa using h)
    rw [show i + 1 + j = i + (j + 1) by omega] at this
    exact this
@[simp] def iEn (tl : DA) : DA := fun ρ M P => tl ρ M fun ds M1 => ∃ xs, ds = [.lst xs] ∧ P (numd 0 xs) M1
/-- [e, ..] * n -/
@[simp] def dRepL (tl : DA) (tb : DE) : DE := fun ρ M P => tl ρ M fun ds M1 => ds.length ≤ sizeLine ∧ tb ρ M1 fun y M2 => ∃ k : Int, y = .int k ∧ -(2 ^ 63) ≤ k ∧ k < 2 ^ 63 ∧ ds.length * k.toNat ≤ sizeLine ∧ P (.lst (List.replicate k.toNat ds).flatten) M2
theorem pd_repL (ha : PDA X es tl) (hb : PD X b tb) : PD X (.BinOp (.List es lpos) .Mult b pos) (dRepL tl tb) := by
  obtain ⟨u, pa, s⟩ := ha.ex
  obtain ⟨u2, pb, s'⟩ := hb.ex
  refine ⟨_, pe_op op_rep (pe_lst pa) pb, ?_⟩
  intro as σ ρ L H M P Q hE A h q
  refine s as σ ρ L H M _ _ hE A h fun vs ds L1 H1 M1 s1 A1 h1 r1 => ⟨by rw [r1.length]; exact h1.1, fun pp hp => ?_⟩
  have s2 := Step.know (o := .lst vs) A1 hp
  have A2 := A1.know (o := .lst vs) hp
  refine s' as σ ρ _ _ M1 _ _ (hE.mono (s1.k.trans s2.k) (Pre.refl _)) A2 h1.2 fun y d L3 H3 M3 s3 A3 h3 r3 => ?_
  obtain ⟨k, rfl, k1, k2, k3, hP⟩ := h3
  cases r3
  have hl : H3 pp = some (.lst vs) := A3.low _ _ (s3.k _ _ upd_same)
  refine ⟨pp, k, vs, rfl, rfl, hl, k1, k2, by rw [r1.length]; exact k3, fun p' hp' => ?_⟩
  have s123 := (s1.trans A1 s2).trans A2 s3
  exact q _ _ _ _ M3 (s123.trans A3 (Step.know A3 hp')) (A3.know hp') hP (.lst (.inl (.inl upd_same)) (((r1.mono (s2.k.trans s3.k) (Pre.refl _)).rep _).mono (Ex.new (lowfree A3 hp')) (Pre.refl _)))
end
end Pd
set_option Elab.async false
set_option linter.all false
set_option maxRecDepth 100000
set_option maxHeartbeats 2000000
namespace Pd
open PySem PySem.Spec PyProof.Rows L2
theorem strOk_append (x y : Str) : PyData.strOk (x ++ y) = (PyData.strOk x && PyData.strOk y) := by
  show (x.cps ++ y.cps).all _ = _
  rw [Array.all_append]
  rfl
theorem strOk_of (s : String) : PyData.strOk (Str.ofString s) = true := by
  rw [Str.ofString_eq_toList]
  unfold PyData.strOk
  rw [Array.all_eq_true']
  intro x hx
  simp only [List.mem_toArray, List.mem_map] at hx
  obtain ⟨c, _, rfl⟩ := hx
  have := c.valid
  simp only [decide_eq_true_eq]
  rcases this with h | ⟨_, h⟩
  · exact Nat.lt_of_lt_of_le h (by decide)
  · exact h
end Pd
set_option Elab.async false
set_option linter.all false
set_option maxRecDepth 100000
set_option maxHeartbeats 2000000
namespace Pd
open PySem PySem.Spec PyProof.Rows L2 PySem.HandSPX
def cutD (xs : List D) (lo hi : Option Int) : List D := (xs.drop (HT.sIx xs.length 0 lo)).take (HT.sIx xs.length xs.length hi - HT.sIx xs.length 0 lo)
abbrev DO := Rho → Ms → (Option Int → Ms → Prop) → Prop
def SimO (K : PySem.W.Frag) (u : TO) (t : DO) : Prop := ∀ as σ ρ L H M P Q, En K as L σ ρ → At K as M L H → t ρ M P →
  (∀ o L' H' M', Step as L H as L' H' → At K as M' L' H' → P o M' → Q o H') → u σ H Q
structure PDO (X : Cx) (e : Option Expr) (t : DO) : Prop where
  ex : ∃ u, PO X e u ∧ SimO X.K u t
@[simp] def oNo : DO := fun _ M P => P none M
@[simp] def oSome (t : DE) : DO := fun ρ M P => t ρ M fun x M1 => ∃ i, x = .int i ∧ P (some i) M1
section
variable {X : Cx} {K : PySem.W.Frag} {e : Expr} {t : DE} {lo hi : Option Expr} {tl tu : DO} {pos p2 : Pos}
theorem RpA.dropN {as : List Addr} {L : Hp} : ∀ (n : Nat) {vs : List V} {ds : List D}, RpA K as L vs ds → RpA K as L (vs.drop n) (ds.drop n)
  | 0, _, _, h => h
  | n + 1, _, _, .nil => .nil
  | n + 1, _, _, .cons _ t => RpA.dropN n t
theorem RpA.takeN {as : List Addr} {L : Hp} : ∀ (n : Nat) {vs : List V} {ds : List D}, RpA K as L vs ds → RpA K as L (vs.take n) (ds.take n)
  | 0, _, _, _ => .nil
  | n + 1, _, _, .nil => .nil
  | n + 1, _, _, .cons r t => .cons r (RpA.takeN n t)
theorem RpA.slice {as : List Addr} {L : Hp} {vs : List V} {ds : List D} (r : RpA K as L vs ds) (lo hi : Option Int) : RpA K as L (cutV vs lo hi) (cutD ds lo hi) := by
  unfold cutV cutD
  rw [r.length]
  exact RpA.takeN _ (RpA.dropN _ r)
theorem pdo_no : PDO X none oNo := ⟨_, po_none, fun as σ ρ L H M P Q hE A h q => q _ L H M .refl A h⟩
theorem pdo_some (h : PD X e t) : PDO X (some e) (oSome t) := by
  obtain ⟨u, p, s⟩ := h.ex
  refine ⟨_, po_some p, ?_⟩
  intro as σ ρ L H M P Q hE A h q
  refine s as σ ρ L H M _ _ hE A h fun v d L1 H1 M1 s1 A1 h1 r1 => ?_
  obtain ⟨i, rfl, h1⟩ := h1
  cases r1
  exact ⟨i, rfl, q _ L1 H1 M1 s1 A1 h1⟩
/-- xs[lo:hi] of a list -/
@[simp] def dSlL (t : DE) (tl tu : DO) : DE := fun ρ M P => t ρ M fun d M1 => ∃ ds, d = .lst ds ∧ tl ρ M1 fun l M2 => tu ρ M2 fun u M3 => P (.lst (cutD ds l u)) M3
/-- t[lo:hi] of a tuple, not the whole of it -/
@[simp] def dSlT (t : DE) (tl tu : DO) : DE := fun ρ M P => t ρ M fun d M1 => ∃ ds, d = .tup ds ∧ tl ρ M1 fun l M2 => tu ρ M2 fun u M3 => ¬ (HT.sIx ds.length 0 l = 0 ∧ HT.sIx ds.length ds.length u = ds.length) ∧ P (.tup (cutD ds l u)) M3
end
def keyD : Key → D
  | .inl i => .int i
  | .inr x => .str x
abbrev DPr := Rho → Ms → (List (Key × D) → Ms → Prop) → Prop
@[simp] def pNil : DPr := fun _ M P => P [] M
@[simp] def pCons (tk tv : DE) (r : DPr) : DPr := fun ρ M P => tk ρ M fun k M1 => ∃ key, k = keyD key ∧ tv ρ M1 fun v M2 => r ρ M2 fun ps M3 => P ((key, v) :: ps) M3
section
variable {X : Cx} {K : PySem.W.Frag} {k v : Expr} {ks : List (Option Expr)} {vs : List Expr} {tk tv : DE} {r : DPr} {pos : Pos}
/-- what is known of a dict is that it stays as it is -/
def tFrzK (te : TE) : TE := fun σ H Q => te σ H fun v H1 => ∃ d kvs, v = .ref d ∧ H1 d = some (.dK kvs) ∧ ∀ o, Q v (upd H1 d (.frz o (.dK kvs)))
theorem pe_frzK {X : Cx} {e : Expr} {te : TE} (h : PE X e te) : PE X e (tFrzK te) := by
  refine ⟨fun pins s σ H Q I hw => ?_⟩
  refine thn (h.run pins s σ H _ I hw) fun v s1 ⟨x, H1, I1, rx, d, kvs, ex, hd, q⟩ => ?_
  subst ex
  obtain ⟨od, I2⟩ := I1.lock hd trivial
  exact ⟨_, _, I2, rx, q od⟩
@[simp] def dDic (r : DPr) : DE := fun ρ M P => r ρ M fun kvs M1 => (kvs.map (·.1)).Nodup ∧ kvs.length ≤ 15 ∧ P (.dic (kvs.map (·.1)) (kvs.map (·.2))) M1
@[simp] def dDic0 : DE := fun _ M P => P (.dic [] []) M
end
section
variable {X : Cx}
/-- the second argument: a tuple of classes -/
inductive DCls : List D → List Value → Prop
  | nil : DCls [] []
  | cons {d : D} {v : V} {u : Value} {ds : List D} {us : List Value} : DCl d v u → DCls ds us → DCls (d :: ds) (u :: us)
variable {e : Expr} {es : List Expr} {te : DE} {tl : DA} {p tp pos : Pos} {k : Nat}
/-- isinstance(e, (T1, ..)), e an exception that keeps something -/
@[simp] def dIsiTE (K : PySem.W.Frag) (te : DE) (tl : DA) : DE := fun ρ M P => te ρ M fun x M1 => ∃ C g gs, x = .exc C (g :: gs) ∧ ExcC K C ∧ tl ρ M1 fun cs M2 => cs.length ≤ sizeLine ∧ ∃ us b, DCls cs us ∧ PySem.W.kitAny K (.ref C) us = some b ∧ P (.bl b) M2
end
section
variable {X : Cx} {B newId initId : String} {tl : List Value} {e e2 : Expr} {ta td : DA} {p pos : Pos}
/-- C(e, e2), the exception keeps both -/
@[simp] def dExc2 (C : Addr) (f g : Str) (ta : DA) : DE := fun ρ M P => ta ρ M fun ds M1 => ∃ y z, ds = [y, z] ∧ P (.exc C [(g, z), (f, y)]) M1
/-- C(g = e, f = e2), the names the other way round -/
@[simp] def dExc2R (C : Addr) (f g : Str) (ta : DA) : DE := fun ρ M P => ta ρ M fun ds M1 => ∃ y z, ds = [z, y] ∧ P (.exc C [(g, z), (f, y)]) M1
end
end Pd
set_option Elab.async false
set_option linter.all false
set_option maxRecDepth 100000
set_option maxHeartbeats 2000000
namespace Pd
open PySem PySem.Spec PyProof.Rows L2 PySem.HandSPX
abbrev XD := Addr → List (Str × D) → Ms → Prop
def XC (K : PySem.W.Frag) (as : List Addr) (L H : Hp) (Xd : XD) (E : XK) : Prop := ∀ (C : Addr) (gs : List (Str × D)) (dx : Addr) (fs : List (Str × V)) (L' H' : Hp) (M' : Ms), Step as L H as L' H' → At K as M' L' H' → Xd C gs M' → L' dx = some (.xd fs) → RpF K as L' fs gs → E (.ref C) (some dx) H'
theorem XC.step {K : PySem.W.Frag} {as : List Addr} {L H L1 H1 : Hp} {M1 : Ms} {Xd : XD} {E : XK} (s : Step as L H as L1 H1) (A1 : At K as M1 L1 H1) (h : XC K as L H Xd E) : XC K as L1 H1 Xd E :=
  fun C gs dx fs L' H' M' s' A' x e r => h C gs dx fs L' H' M' (s.trans A1 s') A' x e r
def xNo : XD := fun _ _ _ => False
theorem XC.no {K : PySem.W.Frag} {as : List Addr} {L H : Hp} {E : XK} : XC K as L H xNo E := fun _ _ _ _ _ _ _ _ _ x => x.elim
/-- an expression whose last step may raise -/
abbrev DX := Rho → Ms → (D → Ms → Prop) → XD → Prop
def SimEX (K : PySem.W.Frag) (E : XK) (te : TE) (t : DX) : Prop := ∀ as σ ρ L H M P Xd Q, En K as L σ ρ → At K as M L H → t ρ M P Xd →
  (∀ v d L' H' M', Step as L H as L' H' → At K as M' L' H' → P d M' → Rp K as L' v d → Q v H') → XC K as L H Xd E → te σ H Q
structure PDX (X : Cx) (E : XK) (e : Expr) (t : DX) : Prop where
  ex : ∃ te, PE X e te ∧ SimEX X.K E te t
abbrev SX := DEnds → XD → Rho → Ms → Prop
def SimSX (K : PySem.W.Frag) (E : XK) (ts : TS) (t : SX) : Prop := ∀ as σ ρ L H M De Xd D, En K as L σ ρ → At K as M L H → t De Xd ρ M → Comp K as L H De D → XC K as L H Xd E → ts D σ H
structure PDSX (X : Cx) (E : XK) (st : Stmt) (t : SX) : Prop where
  ex : ∃ ts, PS X st ts ∧ SimSX X.K E ts t
structure PDSsX (X : Cx) (E : XK) (st : List Stmt) (t : SX) : Prop where
  ex : ∃ ts, PSs X st ts ∧ SimSX X.K E ts t
section
variable {X : Cx} {E : XK} {e : Expr} {es : List Expr} {t : DE} {tl : DA} {tx : DX} {tA : DT} {st : Stmt} {sts : List Stmt} {s1 s2 : SX} {s0 : DS} {pos p : Pos}
@[simp] def xOf (t : DE) : DX := fun ρ M P _ => t ρ M P
@[simp] def zOf (t : DS) : SX := fun De _ ρ M => t De ρ M
theorem pdx_of (h : PD X e t) : PDX X E e (xOf t) := by
  obtain ⟨u, p, s⟩ := h.ex
  exact ⟨u, p, fun as σ ρ L H M P Xd Q hE A h q _ => s as σ ρ L H M P Q hE A h q⟩
theorem pdsx_of (h : PDS X st s0) : PDSX X E st (zOf s0) := by
  obtain ⟨u, p, s⟩ := h.ex
  exact ⟨u, p, fun as σ ρ L H M De Xd D hE A h c _ => s as σ ρ L H M De D hE A h c⟩
theorem pdssx_of (h : PDSs X sts s0) : PDSsX X E sts (zOf s0) := by
  obtain ⟨u, p, s⟩ := h.ex
  exact ⟨u, p, fun as σ ρ L H M De Xd D hE A h c _ => s as σ ρ L H M De D hE A h c⟩
theorem pdssx_nil : PDSsX X E [] (zOf sNext) := pdssx_of pdss_nil
@[simp] def zSeq (t u : SX) : SX := fun De Xd ρ M => t { De with nx := fun ρ' M' => u De Xd ρ' M' } Xd ρ M
theorem pdssx_cons (h1 : PDSX X E st s1) (h2 : PDSsX X E sts s2) : PDSsX X E (st :: sts) (zSeq s1 s2) := by
  obtain ⟨u, p, s⟩ := h1.ex
  obtain ⟨u', p', s'⟩ := h2.ex
  refine ⟨_, pss_cons p p', ?_⟩
  intro as σ ρ L H M De Xd D hE A h c x
  refine s as σ ρ L H M _ Xd _ hE A h ⟨fun σ1 ρ1 L1 H1 M1 st1 A1 e1 q1 => ?_, c.rt, c.bk, c.ct⟩ x
  exact s' as σ1 ρ1 L1 H1 M1 De Xd D e1 A1 q1 (c.step st1 A1) (x.step st1 A1)
theorem pdssx_one (h1 : PDSX X E st s1) : PDSsX X E [st] s1 := by
  obtain ⟨u, p, s⟩ := h1.ex
  exact ⟨_, pss_one p, s⟩
@[simp] def zIf (c : DT) (t u : SX) : SX := fun D Xd ρ M => c ρ M fun b M1 => if b = true then t D Xd ρ M1 else u D Xd ρ M1
theorem pdsx_if {a b : List Stmt} (hc : PDT X c tA) (ha : PDSsX X E a s1) (hb : PDSsX X E b s2) : PDSX X E (.If c a b pos) (zIf tA s1 s2) := by
  obtain ⟨u, p, s⟩ := hc.ex
  obtain ⟨u1, p1, z1⟩ := ha.ex
  obtain ⟨u2, p2, z2⟩ := hb.ex
  refine ⟨_, ps_if p p1 p2, ?_⟩
  intro as σ ρ L H M De Xd D hE A h c x
  refine s as σ ρ L H M _ _ hE A h fun k L1 H1 M1 st A1 h1 => ?_
  have eE := hE.mono st.k st.pre
  cases k with
  | true => exact (if_pos rfl : (if true = true then u1 D σ H1 else u2 D σ H1) = _) ▸ z1 as σ ρ L1 H1 M1 De Xd D eE A1 h1 (c.step st A1) (x.step st A1)
  | false => exact (if_neg Bool.false_ne_true : (if false = true then u1 D σ H1 else u2 D σ H1) = _) ▸ z2 as σ ρ L1 H1 M1 De Xd D eE A1 h1 (c.step st A1) (x.step st A1)
@[simp] def zRet (t : DX) : SX := fun D Xd ρ M => t ρ M D.rt Xd
theorem pdsx_ret (he : PDX X E e tx) : PDSX X E (.Return (some e) pos) (zRet tx) := by
  obtain ⟨u, p, s⟩ := he.ex
  exact ⟨_, ps_ret p, fun as σ ρ L H M De Xd D hE A h c x => s as σ ρ L H M _ Xd _ hE A h (fun v d L1 H1 M1 st A1 q r => c.rt v d L1 H1 M1 st A1 q r) x⟩
@[simp] def zDrop (t : DX) : SX := fun D Xd ρ M => t ρ M (fun _ M1 => D.nx ρ M1) Xd
@[simp] def zAsg (t : DX) (g : DG) : SX := fun D Xd ρ M => t ρ M (fun d M1 => g d ρ fun ρ' => D.nx ρ' M1) Xd
@[simp] def zRaise1 (C : Addr) (f : Str) (tl : DA) : SX := fun _ Xd ρ M => tl ρ M fun ds M1 => ∃ y, ds = [y] ∧ Xd C [(f, y)] M1
end
abbrev DCX := List D → Ms → (D → Ms → Prop) → XD → Prop
def spX (n : Nat) (W : DCX) : PySem.W.Frag → Sp := fun K vs H Q E => vs.length = n ∧ ∃ as M L ds P Xd, RpA K as L vs ds ∧ At K as M L H ∧ W ds M P Xd ∧
  (∀ v d L' H' M', Step as L H as L' H' → At K as M' L' H' → P d M' → Rp K as L' v d → Q v H') ∧ XC K as L H Xd E
section
variable {P : Program} {w : World} {K : PySem.W.Frag} {mg : Str → Option Value} {base : Heap}
theorem pd_fnX {x qual : Str} {st : Stmt} {f : Addr} {fd : FuncData} {N ps : List Str} {k : Nat} {W : DCX} (F : Fun K x qual st f fd) (S : FnScope N ps (defScope st))
    (hbody : ∀ (cdv : Value) (A : Around) (outer : List Env) (s : Shared) (H : Hp) (E : XK), Room k (A.deeper (envOfC qual (defScope st) s.heap.objs.size f cdv)) →
      ∃ t, PDSsX (cxOf (L2.CX P w) P w K mg base N qual (defScope st) f cdv A outer s H E) E (defBody st) t ∧ ∀ ds M Q Xd, ds.length = ps.length → W ds M Q Xd → t { nx := fun _ M' => Q .non M', rt := Q } Xd (startD N ds) M) :
    FnOk P w K mg base (L2.CX P w) (k + 1) f fd ps (spX ps.length W K) := by
  refine F.okX S (fun vs H Q E h => h.1) (fun cdv A outer s H vs Q E hr h => ?_)
  obtain ⟨hl, as, M, L, ds, P', Xd, r, A0, hw, q, xx⟩ := h
  obtain ⟨t, ht, hb⟩ := hbody cdv A outer s H E hr
  obtain ⟨ts, pt, st'⟩ := ht.ex
  refine ⟨ts, pt, st' as (L2.start N vs) (startD N ds) L H M _ Xd _ (en_start r) A0 (hb ds M P' Xd (by rw [← r.length]; exact hl) hw) ⟨?_, ?_, ?_, ?_⟩ xx⟩
  · exact fun σ' ρ' L' H' M' s1 A1 _ p => q .non .non L' H' M' s1 A1 p .non
  · exact fun v d L' H' M' s1 A1 p r => q v d L' H' M' s1 A1 p r
  · exact fun _ _ _ _ _ _ _ _ p => p.elim
  · exact fun _ _ _ _ _ _ _ _ p => p.elim
end
section
variable {X : Cx} {E : XK} {e : Expr} {es : List Expr} {tl : DA} {pos p : Pos}
@[simp] def dCallX (n : Nat) (W : DCX) (tl : DA) : DX := fun ρ M P Xd => tl ρ M fun ds M1 => ds.length = n ∧ W ds M1 P Xd
/-- a def that may raise, where it does not -/
@[simp] def dCallN (n : Nat) (W : DCX) (tl : DA) : DE := fun ρ M P => tl ρ M fun ds M1 => ds.length = n ∧ W ds M1 P xNo
end
section
variable {X : Cx} {E : XK} {e : Expr} {es : List Expr} {tl : DA} {pos p : Pos} {K : PySem.W.Frag}
@[simp] def dMakeX (C : Addr) (n : Nat) (W : DCX) (tl : DA) : DX := fun ρ M P Xd => tl ρ M fun ds M1 => ds.length + 1 = n ∧ W (.mu M1.length :: ds) (M1 ++ [.ins C []])
  (fun d M2 => ∃ M3 fs, d = .non ∧ M2 = M3 ++ [.ins C fs] ∧ M3.length = M1.length ∧ apartF M1.length fs = true ∧ apartM M1.length M3 = true ∧ P (.ins C fs) M3)
  (fun C' gs M2 => ∃ M3 m, M2 = M3 ++ [m] ∧ M3.length = M1.length ∧ apartF M1.length gs = true ∧ apartM M1.length M3 = true ∧ Xd C' gs M3)
@[simp] def dMakeN (C : Addr) (n : Nat) (W : DCX) (tl : DA) : DE := fun ρ M P => tl ρ M fun ds M1 => ds.length + 1 = n ∧ W (.mu M1.length :: ds) (M1 ++ [.ins C []])
  (fun d M2 => ∃ M3 fs, d = .non ∧ M2 = M3 ++ [.ins C fs] ∧ M3.length = M1.length ∧ apartF M1.length fs = true ∧ apartM M1.length M3 = true ∧ P (.ins C fs) M3) xNo
end
end Pd
set_option Elab.async false
set_option linter.all false
set_option maxRecDepth 100000
set_option maxHeartbeats 2000000
namespace Pd
open PySem PySem.Spec PyProof.Rows L2 PySem.HandSPX
end Pd
set_option Elab.async false
set_option linter.all false
set_option maxRecDepth 100000
set_option maxHeartbeats 2000000
namespace Pd
open PySem PySem.Spec PyProof.Rows L2 PySem.HandSPX
/-- a new row of a table: codeAmong finds an old one or the new one -/
theorem TabOk.more {H : Hp} {P c : Addr} {q : Str} {ps : Array Value} {pos : Pos} (h : TabOk H P (.tbl ps) (.tab P q)) (hc : H c = some (LamX.CodeO c q)) : TabOk H P (.tbl (ps ++ #[rawInt pos.line, rawInt pos.col, .ref c])) (.tab P q) := by
  obtain ⟨_, h2, h3⟩ := h
  have eL : (ps ++ #[rawInt pos.line, rawInt pos.col, .ref c]).toList = ps.toList ++ [rawInt pos.line, rawInt pos.col, .ref c] := by simp
  refine ⟨rfl, by rw [eL]; exact PySem.TriplesOk_snoc _ _ _ _ h2, fun p' cv hcv => ?_⟩
  rw [eL] at hcv
  rcases LamX.among_app _ h2 hcv with z | z
  · exact h3 p' cv z
  · exact ⟨c, z, hc⟩
end Pd
namespace Pd
open PySem PySem.Spec PyProof.Rows L2 PySem.HandSPX
/-- an expression that may raise, one reading for all that is wished -/
def upEX (K : PySem.W.Frag) (E : XK) (t : DX) : TE := fun σ H Q => ∃ as ρ L M P Xd, En K as L σ ρ ∧ At K as M L H ∧ t ρ M P Xd ∧ (∀ v d L' H' M', Step as L H as L' H' → At K as M' L' H' → P d M' → Rp K as L' v d → Q v H') ∧ XC K as L H Xd E
theorem PDX.up {X : Cx} {E : XK} {e : Expr} {t : DX} (h : PDX X E e t) : PE X e (upEX X.K E t) := by
  obtain ⟨u, p, s⟩ := h.ex
  exact ⟨fun pins st σ H Q I ⟨as, ρ, L, M, P, Xd, hE, A, ht, q, xx⟩ => p.run pins st σ H Q I (s as σ ρ L H M P Xd Q hE A ht q xx)⟩
theorem Takes.len {X : Cx} {W : WX} (tk : Takes X W) : Takes X (fun cls d σ H => σ.length = X.N.length → W cls d σ H) := fun u s' ⟨a, B, sI, pins, σ, H, cls, d, e, I, nb, up, sky, na, os, ag, w⟩ =>
  tk u s' ⟨a, B, sI, pins, σ, H, cls, d, e, I, nb, up, sky, na, os, ag, w I.len⟩
/-- which clause takes it, and what is told then -/
def PickC (K : PySem.W.Frag) : List (Addr × Str × Str) → Addr → List (Str × D) → Str × Str → Prop
  | [], _, _, _ => False
  | (C', word, fld) :: r, C, gs, out => ∃ b, PySem.W.exmOne K (.ref C) (.ref C') = some b ∧ (b = true → C = C' ∧ ∃ y, gs.lookup fld = some y ∧ Shows y ∧ out = (word, reprD y)) ∧ (b = false → PickC K r C gs out)
@[simp] def dSaid (K : PySem.W.Frag) (P : Addr) (lq : Str) (cl : List (Addr × Str × Str)) (dn : Str) (tb : DX) : DE := fun ρ M Pp => (∃ j : Nat, M[j]? = some (MO.tab P lq)) ∧
  tb ρ M (fun _ M1 => Pp (.lst [.str dn]) M1) (fun C gs M1 => ∃ out : Str × Str, PickC K cl C gs out ∧ Pp (.lst [.str out.1, .str out.2]) M1)
end Pd
set_option Elab.async false
set_option linter.all false
set_option maxRecDepth 100000
set_option maxHeartbeats 2000000
namespace Pd
open PySem PySem.Spec PyProof.Rows L2
end Pd
namespace Pd
open PySem PySem.Spec PyProof.Rows L2
end Pd
set_option Elab.async false
set_option linter.all false
set_option maxRecDepth 100000
set_option maxHeartbeats 2000000
namespace Pd
open PySem PySem.Spec PyProof.Rows L2 PySem.HandSPX
/-- from what a def asks: one def promise, raising or not -/
theorem spX_of {K : PySem.W.Frag} {as : List Addr} {L H : Hp} {M : Ms} {vs : List V} {ds : List D} {P : D → Ms → Prop} {Xd : XD} {Q : VK} {E : XK} {n : Nat} {W : DCX} (A : At K as M L H) (r : RpA K as L vs ds) (hn : ds.length = n) (h : W ds M P Xd)
    (q : ∀ v z L' H' M', Step as L H as L' H' → At K as M' L' H' → P z M' → Rp K as L' v z → Q v H') (xx : XC K as L H Xd E) : spX n W K vs H Q E := ⟨by rw [r.length]; exact hn, as, M, L, ds, P, Xd, r, A, h, q, xx⟩
section
variable {X : Cx} {E : XK} {k n : Nat} {C g : Addr} {fd : FuncData} {ps : List Str} {W : DCX} {e fe o : Expr} {es : List Expr} {t : DE} {tl : DA} {pos apos : Pos} {m : Str} {pl : Sem Bool}
@[simp] def dMethX (C : Addr) (m : Str) (n : Nat) (W : DCX) (t : DE) (tl : DA) : DX := fun ρ M P Xd => t ρ M fun x M1 => ∃ fs, x = .ins C fs ∧ fs.lookup m = none ∧ tl ρ M1 fun ds M2 => ds.length + 1 = n ∧ W (x :: ds) M2 P Xd
/-- .. where it does not raise -/
@[simp] def dMethN (C : Addr) (m : Str) (n : Nat) (W : DCX) (t : DE) (tl : DA) : DE := fun ρ M P => dMethX C m n W t tl ρ M P xNo
theorem sim_ofX {K : PySem.W.Frag} {te : TE} {t : DX} (s : SimEX K E te t) : SimE K te (fun ρ M P => t ρ M P xNo) := fun as σ ρ L H M P Q hE A h q => s as σ ρ L H M P xNo Q hE A h q XC.no
@[simp] def dCallOX (C : Addr) (n : Nat) (W : DCX) (t : DE) (tl : DA) : DX := fun ρ M P Xd => t ρ M fun x M1 => ∃ fs, x = .ins C fs ∧ tl ρ M1 fun ds M2 => ds.length + 1 = n ∧ W (x :: ds) M2 P Xd
@[simp] def dCallON (C : Addr) (n : Nat) (W : DCX) (t : DE) (tl : DA) : DE := fun ρ M P => dCallOX C n W t tl ρ M P xNo
end
section
variable {X : Cx} {E : XK} {k n : Nat} {C g : Addr} {fd : FuncData} {ps : List Str} {W : DCX} {a b : Expr} {ta tb : DE} {pos : Pos}
/-- a def called one step deeper by the machine -/
theorem run_in1 {CX : CXT} {sp : Sp} (F : FnOk X.prog X.w X.K X.mg X.base CX k g fd ps sp) (hb : Binds X.K fd ps []) (hr : Room (k + 1) X.A) (hx : Passes CX X E) {pins : List (Addr × Obj)} {σ : L2.St} {H : Hp} {s : Shared} {us : List Value} {vs : List V} {Q : VK} (I : Inv X pins σ H s) (r : Vals vs us) (h : sp vs H Q E) :
    wpAny (model X.prog X.w) X.A.in1 (call (.ref g) us) (EP X pins σ Q) X.xe s := by
  have hl : us.length = ps.length := r.length.symm.trans (F.len _ _ _ _ h)
  have b := hb s us I.kIn (by rw [List.append_nil]; exact hl)
  rw [List.append_nil] at b
  refine wpAny_call (codeAny_mono (F.run X.A.in1 X.stack s H ⟨us, []⟩ us vs Q E hr.in1 I.env0.in1 b r h) fun r s' hq => ?_)
  match r, hq with
  | .error e, z => exact hx pins σ H s e s' I z
  | .ok (.ret u), z => exact I.after z
  | .ok .next, z => exact (show False from z).elim
  | .ok .brk, z => exact (show False from z).elim
  | .ok .cont, z => exact (show False from z).elim
def rOwnIx (K : PySem.W.Frag) (C : Addr) (n : Nat) (W : DCX) (E : XK) : R2 := fun x y H Q => ∃ a dx fs, x = .ref a ∧ H a = some (.ins C dx fs) ∧ spX n W K [x, y] H Q E
/-- the place of a subscript that is no slice -/
abbrev SubIx (b : Expr) : Prop := ∀ x i, subscripted b true (.ref x) i = runValue (.builtin "lifetime.subscript" ⟨[.ref x, i], []⟩)
theorem pe_ownIx {ua ub : TE} (hx : Passes (L2.CX X.prog X.w) X E) (hs : PySem.W.findIn X.K (.ref C) "__getitem__" = some (some (.ref g))) (hf : PySem.W.fnIn X.K g = true) (hfn : PySem.W.isFn X.K (.ref g) = true) (F : FnOk X.prog X.w X.K X.mg X.base (L2.CX X.prog X.w) k g fd ps (spX n W X.K)) (hb : Binds X.K fd ps []) (hr : Room (k + 1) X.A)
    (pa : PE X a ua) (pb : PE X b ub) (hsl : SubIx b := by exact fun _ _ => by with_unfolding_all rfl) : PE X (.Subscript a b pos) (tOp (rOwnIx X.K C n W E) ua ub) := by
  refine ⟨fun pins s σ H Q I h => Subscript_ (binT pa pb I h fun v u s2 x y H2 I2 rx ry q => ?_)⟩
  obtain ⟨a', dx, fs, rfl, ha, q⟩ := q
  cases (show v = Value.ref a' from rx)
  obtain ⟨mA, O, _⟩ := ins_get I2.hok ha
  obtain ⟨od, J, _⟩ := O.look
  obtain ⟨m, hF⟩ := I2.fr
  exact PySem.W.sub_K hF I2.ok.mod.kin J hs hf hfn (run_in1 (us := [.ref a', u]) (vs := [.ref a', y]) F hb hr hx I2 (.cons rfl (.cons ry .nil)) q) (hsl _ _)
@[simp] def dOwnIxX (C : Addr) (W : DCX) (ta tb : DE) : DX := fun ρ M P Xd => ta ρ M fun x M1 => tb ρ M1 fun y M2 => ∃ fs, x = .ins C fs ∧ W [x, y] M2 P Xd
theorem sim_ownIx {K : PySem.W.Frag} {ua ub : TE} (sa : SimE K ua ta) (sb : SimE K ub tb) : SimEX K E (tOp (rOwnIx K C 2 W E) ua ub) (dOwnIxX C W ta tb) := by
  intro as σ ρ L H M P Xd Q hE A h q xx
  refine sa as σ ρ L H M _ _ hE A h fun v d L1 H1 M1 s1 A1 h1 r1 => ?_
  refine sb as σ ρ L1 H1 M1 _ _ (hE.mono s1.k s1.pre) A1 h1 fun w e L2 H2 M2 s2 A2 h2 r2 => ?_
  obtain ⟨fs, rfl, h2⟩ := h2
  have s12 := s1.trans A1 s2
  have r0 := r1.mono s2.k s2.pre
  cases r1 with
  | ins g1 _ => exact ⟨_, _, _, rfl, A2.low _ _ (s2.k _ _ g1), spX_of A2 (.cons r0 (.cons r2 .nil)) rfl h2 (fun v z L3 H3 M3 s3 A3 h3 r3 => q v z L3 H3 M3 (s12.trans A2 s3) A3 h3 r3) (xx.step s12 A2)⟩
@[simp] def dOwnIxN (C : Addr) (W : DCX) (ta tb : DE) : DE := fun ρ M P => dOwnIxX C W ta tb ρ M P xNo
theorem pd_ownIxN (hs : PySem.W.findIn X.K (.ref C) "__getitem__" = some (some (.ref g))) (hf : PySem.W.fnIn X.K g = true) (hfn : PySem.W.isFn X.K (.ref g) = true) (F : FnOk X.prog X.w X.K X.mg X.base (L2.CX X.prog X.w) k g fd ps (spX 2 W X.K)) (hb : Binds X.K fd ps []) (hr : Room (k + 1) X.A)
    (ha : PD X a ta) (hb' : PD X b tb) (hsl : SubIx b := by exact fun _ _ => by with_unfolding_all rfl) : PD X (.Subscript a b pos) (dOwnIxN C W ta tb) := by
  obtain ⟨ua, pa, sa⟩ := ha.ex
  obtain ⟨ub, pb, sb⟩ := hb'.ex
  exact ⟨_, pe_ownIx (E := E0) passL hs hf hfn F hb hr pa pb hsl, sim_ofX (sim_ownIx (E := E0) sa sb)⟩
end
section
variable {X : Cx} {k : Nat} {C g : Addr} {fd : FuncData} {ps : List Str} {W : DC}
@[simp] def oOwnIn (C : Addr) (W : DC) (f : Bool → Bool) : D2 := fun x y M P => ∃ fs, y = .ins C fs ∧ W [y, x] M fun z M' => ∃ b, z = .bl b ∧ P (.bl (f b)) M'
@[simp] def oOwnLen (C : Addr) (W : DC) : DC := fun xs M P => ∃ fs, xs = [.ins C fs] ∧ W xs M fun z M' => ∃ i : Int, z = .int i ∧ (0 ≤ i ∧ i < 2 ^ 63) ∧ P (.int i) M'
end
end Pd
set_option Elab.async false
set_option linter.all false
set_option maxRecDepth 100000
set_option maxHeartbeats 1000000
namespace Pd
open PySem PySem.Spec PyProof.Rows L2
theorem newClassE (v : Value) : Builtin.SmallTypes.newClass "enumerate" { pos := [Value.type "enumerate", v] } = pure (Value.type "enumerate", [v]) := by
  unfold Builtin.SmallTypes.newClass
  simp only
  rw [sub_enumerate]
  rfl
theorem enew_eq (v : Value) : Builtin.«enumerate.__new__» { pos := [Value.type "enumerate", v] } = (do
    let _ ← Builtin.SmallTypes.calledThroughType (Value.type "enumerate")
    let it ← pyIter v
    let r ← newObj (Value.type "enumerate") (Data.fields #[Value.none, Value.bool false, it, rawInt 0, Value.none, Value.none])
    ret r) := by
  unfold Builtin.«enumerate.__new__»
  rw [newClassE]
  simp only [pure_bind]
  rw [if_pos (by decide)]
  congr 1
  funext b
  cases b <;> rfl
theorem meets_enumG {v : Value} {o : Obj} {C : Heap → Prop} (B : Begins v o C) : Meets (Builtin.«enumerate.__new__» { pos := [Value.type "enumerate", v] }) fun _ R s => C s.heap ∧
    R (.ok (.ret (.ref (s.heap.push o).objs.size))) { s with heap := (s.heap.push o).push { cls := .type "enumerate", data := .fields #[.none, .bool false, .ref s.heap.objs.size, rawInt 0, .none, .none] } } := by
  intro prog w A R s ⟨h, r⟩
  rw [enew_eq]
  refine wpAny_bind ?_
  unfold Builtin.SmallTypes.calledThroughType
  refine wpAny_bind (wpAny_stack fun st _ _ _ => ?_)
  refine wpAny_pure ?_
  refine wpAny_bind (B.iter _ _ _ _ s _ h ?_)
  refine wpAny_bind (wpAny_newObj_type ?_)
  exact wpAny_pure r
theorem enum_begins {prog : Program} {w : World} {A : Around} {E : Value → Shared → Prop} {s : Shared} {v : Value} {o : Obj} {C : Heap → Prop} {Q : Value → Shared → Prop} (B : Begins v o C) (h : C s.heap)
    (q : ∀ h' : Heap, IsEnum h' (s.heap.objs.size + 1) s.heap.objs.size 0 .none → h'.get? s.heap.objs.size = some o → h'.objs.size = s.heap.objs.size + 2 → (∀ b o', s.heap.get? b = some o' → h'.get? b = some o') → Q (.ref (s.heap.objs.size + 1)) { s with heap := h' }) :
    wpAny (model prog w) A (call (.type "enumerate") [v]) Q E s := by
  have e1 : (s.heap.push o).objs.size = s.heap.objs.size + 1 := by simp [Heap.push]
  have g0 : ((s.heap.push o).push { cls := .type "enumerate", data := .fields #[.none, .bool false, .ref s.heap.objs.size, rawInt 0, .none, .none] }).get? (s.heap.objs.size + 1) = some { cls := .type "enumerate", data := .fields #[.none, .bool false, .ref s.heap.objs.size, rawInt 0, .none, .none] } :=
    Heap.get?_push_at e1.symm rfl
  refine callType_new F.called_enumerate (by decide) (F.typeCall_enumerate_1 _) (F.newCall_enumerate_1 _) (fun obj => rfl) F.entry_enumerate_new (meets_enumG B) ⟨h, ?_⟩
  refine ⟨?_, ?_⟩
  · rw [e1]
    exact ⟨_, g0, rfl⟩
  · rw [e1]
    refine q _ g0 ?_ (by simp [Heap.push]) fun b o' hb => ?_
    · exact Heap.get?_push_of_some _ (Heap.get?_push_size _ B.free)
    · exact Heap.get?_push_of_some _ (Heap.get?_push_of_some _ hb)
def IteK (K : PySem.W.Frag) (k : Kd) (a : Addr) : It :=
  ⟨fun i H => ∃ (xs : List V) (x : V), SqK K k H a xs ∧ xs[i]? = some x,
    fun i H v H' => ∃ T x, v = .ref T ∧ H T = none ∧ H' = upd H T (.tup [.int (i : Nat), x]) ∧ ∀ xs, SqK K k H a xs → xs[i]? = some x,
    fun i H => ∃ xs : List V, SqK K k H a xs ∧ i = xs.length⟩
theorem turn_enumK {P : Program} {w : World} {K : PySem.W.Frag} {elts : List Expr} {kk : Nat} {tpos : Pos} (k : Kd) {a e it : Addr} (hne : a ≠ it) (hea : a ≠ e) (he : e ≠ it) :
    Turn P w K (.Tuple elts kk tpos) (IteK K k a) [e, it] e (fun i h => (∃ old, IsEnum h e it (i : Nat) old) ∧ IterK k h it a i) where
  mem := by simp
  obj := fun i h st c hc => by
    obtain ⟨⟨old, h1⟩, h2⟩ := st
    have e' : c = e ∨ c = it := by simpa using hc
    rcases e' with q | q
    · rw [q]; exact ⟨_, h1, fun v q => nomatch q⟩
    · rw [q]; exact iterK_obj h2
  keep := fun i h h' st kp => by
    obtain ⟨⟨old, h1⟩, h2⟩ := st
    exact ⟨⟨old, kp e (by simp) _ h1⟩, iterK_at h2 fun o q => kp it (by simp) o q⟩
  item := by
    intro X hP hw hK hc i pins s σ H E I hf st hg
    subst hP hw hK
    obtain ⟨⟨old, h1⟩, h2⟩ := st
    obtain ⟨xs, x, hq, hx⟩ := hg
    obtain ⟨its, rv, p, _⟩ := sqK_at I hq
    obtain ⟨u, hu, ru⟩ := rv.get hx
    have hel : e < s.heap.objs.size := Heap.lt_size h1
    have hi1 : i < its.toArray.size := by simpa using (List.getElem?_eq_some_iff.mp hu).1
    refine wpAny_pyNext_enum_itemD (drawsK k (A := X.A.in1) (I.ok.hd hc) it a hne its.toArray) h1 ⟨h2, p⟩ hi1 he (by simp; exact ⟨he, fun z => hea z.symm⟩) fun x1 h' tk g1 z1 st1 hT hsz hk => ?_
    have e1 : x1 = u := by
      have g1' : its[i]? = some x1 := by simpa using g1
      rw [hu] at g1'; exact (Option.some.inj g1').symm
    subst e1
    refine ⟨_, rfl, wpAny_letOwnedTupleGo_enum (s := { s with heap := h', toks := tk + 1 }) z1 fun h'' z'' sb => ?_⟩
    have hT2 : h''.get? s.heap.objs.size = some { cls := .type "tuple", data := .seq #[.int (i : Nat) tk, x1] } := (sb.2 _ (Nat.ne_of_gt hel)).trans hT
    have new : ObjOk X.prog X.w (upd H s.heap.objs.size (.tup [.int (i : Nat), x])) h'' s.heap.objs.size (.tup [.int (i : Nat), x]) :=
      ⟨by show 2 ≤ sizeLine; decide, [.int (i : Nat) tk, x1], .cons ⟨_, rfl⟩ (.cons ru .nil), ⟨_, hT2, rfl, _, rfl⟩⟩
    have I1 : Inv X pins σ (upd H s.heap.objs.size (.tup [.int (i : Nat), x])) { s with heap := h'', toks := tk + 1 } :=
      I.turnedNew (t' := tk + 1) (ch := [e, it]) (fun c o hb q => (sb.2 c (fun q' => hb (by simp [q']))).trans (hk c o (fun q' => hb (by simp [q'])) (fun q' => hb (by simp [q'])) q)) hf (Nat.le_refl _) new
    refine ⟨.ref s.heap.objs.size, _, I1, rfl, ⟨_, x, rfl, I.hok.fresh (Nat.le_refl _), rfl, fun l hl => by rw [sqK_inj I hl hq]; exact hx⟩, ⟨⟨_, by simpa using z''⟩, ?_⟩, fun c hcm => ?_⟩
    · exact iterK_at st1.1 fun o q => (sb.2 _ (fun z => he z.symm)).trans q
    · have hlt : c < s.heap.objs.size := by
        have e' : c = e ∨ c = it := by simpa using hcm
        rcases e' with q | q
        · rw [q]; exact hel
        · rw [q]; obtain ⟨_, e1, _⟩ := iterK_obj h2; exact Heap.lt_size e1
      rw [upd_ne (Nat.ne_of_lt hlt)]
      exact (hf c hcm).1
  done := by
    intro X hP hw hK hc i pins s σ H E I hf st hg
    subst hP hw hK
    obtain ⟨⟨old, h1⟩, h2⟩ := st
    obtain ⟨xs, hq, hend⟩ := hg
    obtain ⟨its, rv, p, _⟩ := sqK_at I hq
    have l1 := rv.length
    have hn : its.toArray.size = i := by simp; omega
    refine wpAny_pyNext_enum_endD (drawsK k (A := X.A.in1) (I.ok.hd hc) it a hne its.toArray) h1 (by rw [hn]; exact ⟨h2, p⟩) fun h' hk => ?_
    exact ⟨rfl, I.turnedL (t' := s.toks) (ch := [e, it]) (fun c o hb q => hk c o (fun q' => hb (by simp [q'])) q) hf⟩
  self := fun A i s Q E st h => by obtain ⟨⟨old, h1⟩, _⟩ := st; exact wpAny_pyIter_enum h1 h
def iEnumK (K : PySem.W.Frag) (ta : TA) : TI := fun σ H R => ta σ H fun vs H1 => ∃ k a xs, vs = [.ref a] ∧ SqK K k H1 a xs ∧ R (IteK K k a) H1
section
variable {X : Cx} {e : Expr} {pos p tpos : Pos} {elts : List Expr} {kk : Nat} {tl : DA}
theorem pi_enumK {ta : TA} (hg : Gl X "enumerate") (hm : X.mg "enumerate" = none) (ha : PA X [e] ta)
    (hs : starEach [e] X.env = (false, eval e X.env) :: starEach [] X.env := by rfl) (hpl : (backTo pos (starEach [] X.env)).any (·.1) = false := by rfl) :
    PI X (.Tuple elts kk tpos) (.Call (.Name "enumerate" p) [e] [] pos) (iEnumK X.K ta) := by
  refine ⟨fun pins s σ H R I h => ?_⟩
  refine Call_ (ld_blt I hg hm PyProof.Rows.boot_enumerate (PyProof.Rows.callWith_type1 (thn (ha.run pos pins s σ H _ I h) fun us s1 ⟨vs, H1, I1, r1, q1⟩ => ?_) hs hpl))
  obtain ⟨k, a, xs, ex, hq, q⟩ := q1
  subst ex
  cases r1 with
  | cons r rr =>
    cases rr
    cases r
    obtain ⟨its, rv, p1, l1⟩ := sqK_at I1 hq
    have fresh2 : ∀ c, c ∈ [s1.heap.objs.size + 1, s1.heap.objs.size] → FpOk X pins H1 c := fun c hcm => by
      have e' : c = s1.heap.objs.size + 1 ∨ c = s1.heap.objs.size := by simpa using hcm
      have hle : s1.heap.objs.size ≤ c := by rcases e' with z | z <;> omega
      exact I1.fpOk hle (I1.hok.fresh hle)
    refine enum_begins (beginsK k a its.toArray) p1 fun h' hz h1 hsz hk => wpAny_pyIter_enum hz ?_
    have I2 : Inv X pins σ H1 { s1 with heap := h' } := I1.kept (t' := s1.toks) hk
    exact ⟨s1.heap.objs.size + 1, [s1.heap.objs.size + 1, s1.heap.objs.size], _, _, H1, rfl, I2, turn_enumK k (Nat.ne_of_lt l1) (Nat.ne_of_lt (Nat.lt_succ_of_lt l1)) (Nat.succ_ne_self _), ⟨⟨_, hz⟩, iterK_new h1⟩, fresh2, q⟩
@[simp] def iEnK (tl : DA) : DA := fun ρ M P => tl ρ M fun ds M1 => ∃ d xs, ds = [d] ∧ isSeq d xs ∧ P (numd 0 xs) M1
theorem walks_enumK {K : PySem.W.Frag} {as : List Addr} {L0 : Hp} {k : Kd} {a : Addr} {xs : List V} {ds : List D} (h1 : SqK K k L0 a xs) (r1 : RpA K as L0 xs ds) : Walks K (IteK K k a) as L0 (numd 0 ds) := by
  intro L H M e A
  have g1 := ex_k (e.trans A.low) h1
  refine ⟨fun i hi => ?_, xs, g1, by rw [numd_len, r1.length]⟩
  rw [numd_len] at hi
  have i1 : i < xs.length := by rw [r1.length]; omega
  refine ⟨⟨xs, _, g1, List.getElem?_eq_getElem i1⟩, fun v H' y => ?_⟩
  obtain ⟨T, x, rfl, hT, rfl, f1⟩ := y
  obtain ⟨d1, q1, w1⟩ := r1.getV (f1 xs g1)
  have lT := lowfree A hT
  refine ⟨_, upd L T (.tup [.int (i : Nat), x]), numd_get ds 0 i d1 q1, Step.know A hT, A.know hT, .tup (.inl (.inl upd_same)) (.cons ?_ (.cons (w1.mono (e.trans (Ex.new lT)) (Pre.refl _)) .nil))⟩
  rw [Nat.zero_add]
  exact .int _
theorem pdi_enumK (hg : Gl X "enumerate") (hm : X.mg "enumerate" = none) (ha : PDA X [e] tl)
    (hs : starEach [e] X.env = (false, eval e X.env) :: starEach [] X.env := by rfl) (hpl : (backTo pos (starEach [] X.env)).any (·.1) = false := by rfl) : PDI X (.Tuple elts kk tpos) (.Call (.Name "enumerate" p) [e] [] pos) (iEnK tl) := by
  obtain ⟨u, pa, s⟩ := ha.ex
  refine ⟨_, pi_enumK hg hm pa hs hpl, ?_⟩
  intro as σ ρ L H M P R hE A h q
  refine s as σ ρ L H M _ _ hE A h fun vs ds L1 H1 M1 s1 A1 h1 r1 => ?_
  obtain ⟨d, xs, rfl, hd, p⟩ := h1
  cases r1 with
  | cons ra rb =>
    cases rb
    obtain ⟨k, a, xv, rfl, g1, w1⟩ := rp_seq ra hd
    exact ⟨k, a, xv, rfl, ex_k A1.low g1, q _ _ L1 H1 M1 s1 A1 p (walks_enumK g1 w1)⟩
end
end Pd
set_option Elab.async false
set_option linter.all false
set_option maxRecDepth 100000
set_option maxHeartbeats 1000000
namespace Pd
open PySem PySem.Spec PyProof.Rows L2
def upI (K : PySem.W.Frag) (t : DA) : TI := fun σ H R => ∃ as ρ L M P, En K as L σ ρ ∧ At K as M L H ∧ t ρ M P ∧ ∀ J ds L' H' M', Step as L H as L' H' → At K as M' L' H' → P ds M' → Walks K J as L' ds → R J H'
theorem sim_upI {K : PySem.W.Frag} (t : DA) : SimI K (upI K t) t := fun as σ ρ L H M P R hE A h q => ⟨as, ρ, L, M, P, hE, A, h, q⟩
theorem PDI.up {X : Cx} {tg iter : Expr} {t : DA} (h : PDI X tg iter t) : PI X tg iter (upI X.K t) := by
  obtain ⟨u, p, s⟩ := h.ex
  exact ⟨fun pins sh σ H R I ⟨as, ρ, L, M, P, hE, A, h, q⟩ => p.run pins sh σ H R I (s as σ ρ L H M P R hE A h q)⟩
def lcIn (g : DG) (tt : DT) (te : DE) (ρ : Rho) (k : List D → Ms → Prop) : List D → List D → Ms → Prop
  | [], acc, M => k acc M
  | d :: r, acc, M => g d ρ fun ρ' => tt ρ' M fun b M1 => if b = true then te ρ' M1 fun y M2 => acc.length < sizeLine ∧ lcIn g tt te ρ k r (acc ++ [y]) M2 else lcIn g tt te ρ k r acc M1
def lc2Run (g : DG) (tt : DT) (it1 : DA) (g1 : DG) (tt1 : DT) (te : DE) (vs1 : List Nat) (ρ : Rho) (P : D → Ms → Prop) : List D → List D → Ms → Prop
  | [], acc, M => P (.lst acc) M
  | d :: r, acc, M => g d ρ fun ρ' => tt ρ' M fun b M1 => if b = true then it1 ρ' M1 fun ds1 M2 => lcIn g1 tt1 te (wipeR ρ' vs1) (fun acc' M' => lc2Run g tt it1 g1 tt1 te vs1 ρ P r acc' M') ds1 acc M2 else lc2Run g tt it1 g1 tt1 te vs1 ρ P r acc M1
@[simp] def dLc2 (it : DA) (g : DG) (tt : DT) (it1 : DA) (g1 : DG) (tt1 : DT) (te : DE) (vs vs1 : List Nat) : DE := fun ρ M P => it ρ M fun ds M1 => lc2Run g tt it1 g1 tt1 te vs1 (wipeR ρ vs) P ds [] M1
theorem sim_lc2 {K : PySem.W.Frag} {wi wi1 : TI} {it it1 : DA} {g' g1' : TG} {g g1 : DG} {us us1 : List Nat} {ut ut1 : TT} {tt tt1 : DT} {ue : TE} {te : DE} {vs vs1 : List Nat} (hus : ∀ i ∈ us, i ∈ vs) (hus1 : ∀ i ∈ us1, i ∈ vs1)
    (s : SimI K wi it) (sg : SimG K g' g us) (st : SimT K ut tt) (si1 : SimI K wi1 it1) (sg1 : SimG K g1' g1 us1) (st1 : SimT K ut1 tt1) (se : SimE K ue te) :
    SimE K (tLc2 wi g' ut wi1 g1' ut1 ue vs vs1) (dLc2 it g tt it1 g1 tt1 te vs vs1) := by
  intro as σ ρ L H M P Q hE A h q
  refine s as σ ρ L H M _ _ hE A h fun J ds L1 H1 M1 s1 A1 h1 w1 => ?_
  intro D hD
  have base : ∀ {L' H' : Hp} {M' : Ms} {acc : List V}, At K as M' L' H' → H' D = some (.lst acc) → L' D = none → D ∉ as → ∀ acc', At K as M' L' (upd H' D (.lst acc')) := by
    intro L' H' M' acc A' hd hl hn acc'
    refine ⟨fun a o h => ?_, A'.len, A'.nd, fun k a m e1 e2 => ?_, A'.nt⟩
    · have e : a ≠ D := fun z => by rw [z, hl] at h; cases h
      rw [upd_ne e]; exact A'.low a o h
    · obtain ⟨h3, o, h4, h5⟩ := A'.mo k a m e1 e2
      have e : a ≠ D := fun z => hn (by rw [← z]; exact List.mem_of_getElem? e1)
      exact ⟨h3, o, by rw [upd_ne e]; exact h4, h5.1, h5.2.keep (KeepC.over hd rfl)⟩
  have dn : D ∉ as := fun z => (A1.held z).2 hD
  have ld : L1 D = none := lowfree A1 hD
  refine ⟨fun i m H' => m = ds.length - i ∧ i ≤ ds.length ∧ ∃ L' M' xs acc, Step as L1 H1 as L' H' ∧ At K as M' L' H' ∧ H' D = some (.lst xs) ∧ L' D = none ∧ RpA K as L' xs acc ∧ lc2Run g tt it1 g1 tt1 te vs1 (wipeR ρ vs) P (ds.drop i) acc M',
    ⟨ds.length, by simp, Nat.zero_le _, L1, M1, [], [], ⟨fun a o _ h => ?_, Ex.refl _, fun _ h _ => h, Pre.refl _, fun _ h => .inl h⟩, ?_, upd_same, ld, .nil, h1⟩, ?_⟩
  · rw [upd_ne (ne_of_none h hD)]; exact h
  · refine ⟨fun a o h => ?_, A1.len, A1.nd, fun k a m e1 e2 => ?_, A1.nt⟩
    · rw [upd_ne (ne_of_none (A1.low a o h) hD)]; exact A1.low a o h
    · obtain ⟨h3, o, h4, h5⟩ := A1.mo k a m e1 e2
      exact ⟨h3, o, by rw [upd_ne (ne_of_none h4 hD)]; exact h4, h5.1, h5.2.keep (KeepC.new hD)⟩
  rintro i m H' ⟨rfl, hi, L', M', xs, acc, s', A', hd', ld', ra, hf⟩
  obtain ⟨wg, ws⟩ := w1 L' H' M' s'.k A'
  have upD : ∀ {L2 H2 : Hp} {M2 : Ms}, Step as L1 H1 as L2 H2 → At K as M2 L2 H2 → ∀ acc', Step as L1 H1 as L2 (upd H2 D (.lst acc')) := by
    intro L2 H2 M2 s2 A2 acc'
    exact ⟨fun a o ha h => by rw [upd_ne (ne_of_none h hD)]; exact s2.up a o ha h, s2.k, s2.hid, s2.pre, s2.new⟩
  by_cases hlt : i < ds.length
  · obtain ⟨go, wy⟩ := wg i hlt
    rw [List.drop_eq_getElem_cons hlt] at hf
    refine .inr ⟨go, fun H2 => ∃ L' M' xs acc, Step as L1 H1 as L' H2 ∧ At K as M' L' H2 ∧ H2 D = some (.lst xs) ∧ L' D = none ∧ RpA K as L' xs acc ∧ lc2Run g tt it1 g1 tt1 te vs1 (wipeR ρ vs) P (ds.drop (i + 1)) acc M', fun H2 q => ⟨ds.length - (i + 1), by omega, rfl, hlt, q⟩, fun x H2 y => ?_⟩
    obtain ⟨d, L2, hd, s2, A2, r2⟩ := wy x H2 y
    rw [List.getElem?_eq_getElem hlt] at hd
    cases hd
    have hE2 : En K as L2 (wipeS σ vs) (wipeR ρ vs) := ((hE.mono (s1.k.trans (s'.k.trans s2.k)) (Pre.refl _)).wipe vs)
    have hd2 : H2 D = some (.lst xs) := s2.up D _ dn hd'
    have ld2 : L2 D = none := s2.hid D ld' (by rw [hd']; simp)
    refine sg as L2 H2 x _ _ _ M' _ _ hE2 A2 r2 hf fun σ3 ρ3 e3 p3 wp => ⟨?_, ?_⟩
    · have z := wp vs hus
      rw [z, wipe_wipe]
    · refine st as σ3 ρ3 L2 H2 M' _ _ e3 A2 p3 fun b L3 H3 M3 s3 A3 h3 => ?_
      have s13 := (s'.trans A' s2).trans A2 s3
      have hd3 : H3 D = some (.lst xs) := s3.up D _ dn hd2
      have ld3 : L3 D = none := s3.hid D ld2 (by rw [hd2]; simp)
      cases b with
      | false =>
        rw [if_neg Bool.false_ne_true] at h3 ⊢
        exact ⟨L3, M3, xs, acc, s13, A3, hd3, ld3, ra.mono (s2.k.trans s3.k) (Pre.refl _), h3⟩
      | true =>
        rw [if_pos rfl] at h3 ⊢
        refine si1 as σ3 ρ3 L3 H3 M3 _ _ (e3.mono s3.k s3.pre) A3 h3 fun J1 ds1 L4 H4 M4 s4 A4 h4 w4 => ?_
        have hd4 : H4 D = some (.lst xs) := s4.up D _ dn hd3
        have ld4 : L4 D = none := s4.hid D ld3 (by rw [hd3]; simp)
        have s14 := s13.trans A3 s4
        have ra4 := ra.mono (s2.k.trans (s3.k.trans s4.k)) (Pre.refl as)
        have e4 := e3.mono (s3.k.trans s4.k) (Pre.refl as)
        refine ⟨fun j k H5 => k = ds1.length - j ∧ j ≤ ds1.length ∧ ∃ L5 M5 xs acc, Ex L4 L5 ∧ Step as L1 H1 as L5 H5 ∧ At K as M5 L5 H5 ∧ H5 D = some (.lst xs) ∧ L5 D = none ∧ RpA K as L5 xs acc ∧ lcIn g1 tt1 te (wipeR ρ3 vs1) (fun acc' M' => lc2Run g tt it1 g1 tt1 te vs1 (wipeR ρ vs) P (ds.drop (i + 1)) acc' M') (ds1.drop j) acc M5,
          ⟨ds1.length, by simp, Nat.zero_le _, L4, M4, xs, acc, Ex.refl _, s14, A4, hd4, ld4, ra4, h4⟩, ?_⟩
        rintro j k H5 ⟨rfl, hj, L5, M5, xs5, acc5, x5, s5, A5, hd5, ld5, ra5, hf5⟩
        obtain ⟨wg5, ws5⟩ := w4 L5 H5 M5 x5 A5
        by_cases hl5 : j < ds1.length
        · obtain ⟨go5, wy5⟩ := wg5 j hl5
          rw [List.drop_eq_getElem_cons hl5] at hf5
          refine .inr ⟨go5, fun H6 => ∃ L5 M5 xs acc, Ex L4 L5 ∧ Step as L1 H1 as L5 H6 ∧ At K as M5 L5 H6 ∧ H6 D = some (.lst xs) ∧ L5 D = none ∧ RpA K as L5 xs acc ∧ lcIn g1 tt1 te (wipeR ρ3 vs1) (fun acc' M' => lc2Run g tt it1 g1 tt1 te vs1 (wipeR ρ vs) P (ds.drop (i + 1)) acc' M') (ds1.drop (j + 1)) acc M5, fun H6 q => ⟨ds1.length - (j + 1), by omega, rfl, hl5, q⟩, fun x6 H6 y6 => ?_⟩
          obtain ⟨d6, L6, hd6, s6, A6, r6⟩ := wy5 x6 H6 y6
          rw [List.getElem?_eq_getElem hl5] at hd6
          cases hd6
          have hE6 : En K as L6 (wipeS σ3 vs1) (wipeR ρ3 vs1) := ((e4.mono (x5.trans s6.k) (Pre.refl _)).wipe vs1)
          have hd6 : H6 D = some (.lst xs5) := s6.up D _ dn hd5
          have ld6 : L6 D = none := s6.hid D ld5 (by rw [hd5]; simp)
          refine sg1 as L6 H6 x6 _ _ _ M5 _ _ hE6 A6 r6 hf5 fun σ7 ρ7 e7 p7 wp7 => ⟨?_, ?_⟩
          · have z := wp7 vs1 hus1
            rw [z, wipe_wipe]
          · refine st1 as σ7 ρ7 L6 H6 M5 _ _ e7 A6 p7 fun b L7 H7 M7 s7 A7 h7 => ?_
            have s17 := (s5.trans A5 s6).trans A6 s7
            have hd7 : H7 D = some (.lst xs5) := s7.up D _ dn hd6
            have ld7 : L7 D = none := s7.hid D ld6 (by rw [hd6]; simp)
            cases b with
            | false =>
              rw [if_neg Bool.false_ne_true] at h7 ⊢
              exact ⟨L7, M7, xs5, acc5, x5.trans (s6.k.trans s7.k), s17, A7, hd7, ld7, ra5.mono (s6.k.trans s7.k) (Pre.refl _), h7⟩
            | true =>
              rw [if_pos rfl] at h7 ⊢
              refine se as σ7 ρ7 L7 H7 M7 _ _ (e7.mono s7.k s7.pre) A7 h7 fun v z L8 H8 M8 s8 A8 h8 r8 => ?_
              have hd8 : H8 D = some (.lst xs5) := s8.up D _ dn hd7
              have ld8 : L8 D = none := s8.hid D ld7 (by rw [hd7]; simp)
              have s18 := s17.trans A7 s8
              have ra8 := ra5.mono (s6.k.trans (s7.k.trans s8.k)) (Pre.refl as)
              exact ⟨xs5, hd8, by rw [ra8.length]; exact h8.1, L8, M8, xs5 ++ [v], acc5 ++ [z], x5.trans (s6.k.trans (s7.k.trans s8.k)), upD s18 A8 _, base A8 hd8 ld8 dn _, upd_same, ld8, ra8.append (.one r8), h8.2⟩
        · have e : j = ds1.length := by omega
          subst e
          rw [List.drop_length] at hf5
          exact .inl ⟨ws5, L5, M5, xs5, acc5, s5, A5, hd5, ld5, ra5, hf5⟩
  · have e : i = ds.length := by omega
    subst e
    rw [List.drop_length] at hf
    refine .inl ⟨ws, q _ _ (upd L' D (.lst xs)) H' M' (s1.trans A1 ⟨s'.up, s'.k.trans (Ex.new ld'), fun a h h' => ?_, Pre.refl _, fun _ h => .inl h⟩) ⟨fun a o h => ?_, A'.len, A'.nd, fun k a m e1 e2 => ?_, A'.nt.new (fun ps z => by cases z)⟩ hf (.lst (.inl (.inl upd_same)) (ra.mono (Ex.new ld') (Pre.refl _)))⟩
    · have e : a ≠ D := fun z => h' (by rw [z]; exact hD)
      rw [upd_ne e]; exact s'.hid a h h'
    · by_cases e : a = D
      · subst e; rw [upd_same] at h; rw [hd']; exact h
      · rw [upd_ne e] at h; exact A'.low a o h
    · obtain ⟨h3, o, h4, h5⟩ := A'.mo k a m e1 e2
      have e : a ≠ D := fun z => dn (by rw [← z]; exact List.mem_of_getElem? e1)
      exact ⟨by rw [upd_ne e]; exact h3, o, h4, h5.1.mono (Ex.new ld') (Pre.refl _), h5.2⟩
section
variable {X : Cx}
theorem pd_lc2 {elt tg iter tg1 iter1 : Expr} {ifs ifs1 : List Expr} {scope : Scope} (own : List (Str × Nat)) (vs1 : List Nat) {pos : Pos} {it it1 : DA} {g g1 : DG} {us us1 : List Nat} {tt tt1 : DT} {te : DE} (hc : X.calm = true) (hN : X.N.Nodup) (hi : PDI X tg iter it) (ok : BlkOk X.N X.env.scope scope own)
    (hg : ∀ (s : Shared) (H : Hp) (C : Addr) (cl : List (Str × Addr)) (fp : List Addr), PDG (X.blk s H scope (compEnvC scope cl C X.env) fp) tg g us) (ht : ∀ (s : Shared) (H : Hp) (C : Addr) (cl : List (Str × Addr)) (fp : List Addr), PDTs (X.blk s H scope (compEnvC scope cl C X.env) fp) ifs tt)
    (hi1 : ∀ (s : Shared) (H : Hp) (C : Addr) (cl : List (Str × Addr)) (fp : List Addr), PDI (X.blk s H scope (compEnvC scope cl C X.env) fp) tg1 iter1 it1)
    (hg1 : ∀ (s : Shared) (H : Hp) (C : Addr) (cl : List (Str × Addr)) (fp : List Addr), PDG (X.blk s H scope (compEnvC scope cl C X.env) fp) tg1 g1 us1) (ht1 : ∀ (s : Shared) (H : Hp) (C : Addr) (cl : List (Str × Addr)) (fp : List Addr), PDTs (X.blk s H scope (compEnvC scope cl C X.env) fp) ifs1 tt1)
    (he : ∀ (s : Shared) (H : Hp) (C : Addr) (cl : List (Str × Addr)) (fp : List Addr), PD (X.blk s H scope (compEnvC scope cl C X.env) fp) elt te) (hv : ∀ i ∈ vs1, i ∈ own.map (·.2) := by decide) (hu : ∀ i ∈ us, i ∈ own.map (·.2) := by decide) (hu1 : ∀ i ∈ us1, i ∈ vs1 := by decide)
    (hs : ∀ x, foldedSetIterable iter X.env x = pure x := by intro _; rfl) (hs1 : ∀ env x, foldedSetIterable iter1 env x = pure x := by intro _ _; rfl) :
    PD X (.ListComp elt [⟨tg, iter, ifs, 0⟩, ⟨tg1, iter1, ifs1, 0⟩] scope pos) (dLc2 it g tt it1 g1 tt1 te (own.map (·.2)) vs1) := by
  obtain ⟨wi, p, s⟩ := hi.ex
  exact ⟨_, pe_lc2 hc hN p ok hv (fun a b c d e => (hg a b c d e).up) (fun a b c d e => (ht a b c d e).up) (fun a b c d e => (hi1 a b c d e).up) (fun a b c d e => (hg1 a b c d e).up) (fun a b c d e => (ht1 a b c d e).up) (fun a b c d e => (he a b c d e).up) (hs := hs) (hs1 := hs1),
    sim_lc2 hu hu1 s (sim_upG g us) (sim_upT tt) (sim_upI it1) (sim_upG g1 us1) (sim_upT tt1) (sim_upE te)⟩
end
end Pd
set_option Elab.async false
set_option linter.all false
set_option maxRecDepth 100000
set_option maxHeartbeats 1000000
namespace Pd
open PySem PySem.Spec PyProof.Rows L2
section
variable {X : Cx} {K : PySem.W.Frag}
@[simp] def dStar (te : DE) (tl : DA) : DA := fun ρ M P => te ρ M fun d M1 => ∃ xs, isSeq d xs ∧ tl ρ M1 fun ys M2 => P (xs ++ ys) M2
theorem pda_star {e : Expr} {es : List Expr} {te : DE} {tl : DA} {p : Pos} (ha : PD X e te) (hr : PDA X es tl) (hs : starEach (.Starred e p :: es) X.env = (true, eval e X.env) :: starEach es X.env := by rfl) : PDA X (.Starred e p :: es) (dStar te tl) := by
  obtain ⟨u, pa, s⟩ := ha.ex
  obtain ⟨u2, pb, s2⟩ := hr.ex
  refine ⟨_, StX.pa_star pa pb hs, ?_⟩
  intro as σ ρ L H M P Q hE A h q
  refine s as σ ρ L H M _ _ hE A h fun v d L1 H1 M1 s1 A1 h1 r1 => ?_
  obtain ⟨xs, hd, h1⟩ := h1
  obtain ⟨k, a, xv, rfl, g1, w1⟩ := rp_seq r1 hd
  refine ⟨a, xv, rfl, ?_, s2 as σ ρ L1 H1 M1 _ _ (hE.mono s1.k s1.pre) A1 h1 fun vs ds L2 H2 M2 t1 A2 h2 r2 => ?_⟩
  · cases k with
    | l => exact .inr (ex_l A1.low g1)
    | t => exact .inl (ex_t A1.low g1)
  · exact q _ _ L2 H2 M2 (s1.trans A1 t1) A2 h2 ((w1.mono t1.k t1.pre).append r2)
def isNonD : D → Bool | .non => true | _ => false
@[simp] theorem isNonD_non : isNonD .non = true := rfl
@[simp] theorem isNonD_int (i : Int) : isNonD (.int i) = false := rfl
@[simp] theorem isNonD_tup (ds : List D) : isNonD (.tup ds) = false := rfl
@[simp] theorem isNonD_lst (ds : List D) : isNonD (.lst ds) = false := rfl
@[simp] theorem isNonD_str (x : Str) : isNonD (.str x) = false := rfl
@[simp] theorem isNonD_bl (b : Bool) : isNonD (.bl b) = false := rfl
theorem Rp.nonD {as : List Addr} {L : Hp} {v : V} {d : D} (r : Rp K as L v d) : decide (v = .non) = isNonD d := by cases r <;> simp [isNonD]
def rIs0 : R2 := fun x y H Q => y = V.non ∧ Q (V.bl (decide (x = V.non))) H
def rNot0 : R2 := fun x y H Q => y = V.non ∧ Q (V.bl (!decide (x = V.non))) H
@[simp] def oIs0 : D2 := fun x y M P => y = .non ∧ P (.bl (isNonD x)) M
@[simp] def oNot0 : D2 := fun x y M P => y = .non ∧ P (.bl (!isNonD x)) M
theorem sr_is0 : SimR K rIs0 oIs0 := by
  intro as L H M x y d e P Q A r1 r2 ⟨h1, p⟩ q
  subst h1
  cases r2
  refine ⟨rfl, ?_⟩
  rw [r1.nonD]
  exact q _ _ L H M .refl A p (.bl _)
theorem sr_not0 : SimR K rNot0 oNot0 := by
  intro as L H M x y d e P Q A r1 r2 ⟨h1, p⟩ q
  subst h1
  cases r2
  refine ⟨rfl, ?_⟩
  rw [r1.nonD]
  exact q _ _ L H M .refl A p (.bl _)
theorem op_is0 : OpR X (compareOp .Is) rIs0 := op_isN
theorem op_not0 : OpR X (compareOp .IsNot) rNot0 := op_notN
def rInS' (K : PySem.W.Frag) : R2 := fun x y H Q => ∃ d ds, Dp K H x d ∧ (Dp K H y (.list ds) ∧ SeqAt.shaped (.list ds) = true ∨ Dp K H y (.tuple ds) ∧ SeqAt.shaped (.tuple ds) = true) ∧ SeqAt.shaped d = true ∧ d.depth ≤ 60 ∧ Q (.bl (ds.any fun z => PyData.eqv z d)) H
theorem op_inS' (hu : X.A.units + 64 < cLine) : OpR X (compareOp .In) (rInS' X.K) := by
  intro pins s σ H x y v u Q I r1 r2 h
  obtain ⟨d, ds, h1, h2, h3, hd, q⟩ := h
  obtain ⟨bs, rx⟩ := Dp.reads I d x v h1 r1
  rcases h2 with ⟨h2, h4⟩ | ⟨h2, h4⟩
  · obtain ⟨as, ry⟩ := Dp.reads I _ y u h2 r2
    have hc := SeqAt.canLay_of_shaped h4
    refine SeqAt.in_list_reads ry rx (by simpa [PyData.canLay0] using hc) (SeqAt.canLay_of_shaped h3) (by omega) ⟨.bl _, H, I, rfl, q⟩
  · obtain ⟨as, ry⟩ := Dp.reads I _ y u h2 r2
    have hc := SeqAt.canLay_of_shaped h4
    refine SeqAt.in_tuple_reads ry rx (by simpa [PyData.canLay0] using hc) (SeqAt.canLay_of_shaped h3) (by omega) ⟨.bl _, H, I, rfl, q⟩
@[simp] def oInS : D2 := fun x y M P => ∃ ds, isSeq y ds ∧ okD x = true ∧ okD y = true ∧ (toP x).depth ≤ 60 ∧ P (.bl (ds.any fun z => eqD z x)) M
theorem toPA_map (ds : List D) : toPA ds = ds.map toP := by
  induction ds with
  | nil => rfl
  | cons d ds ih => show toP d :: toPA ds = _; rw [ih]; rfl
theorem sr_inS : SimR K (rInS' K) oInS := by
  intro as L H M x y d e P Q A r1 r2 ⟨ds, h1, h2, h3, h4, p⟩ q
  have e1 := Bool.and_eq_true_iff.mp h2
  have e2 := Bool.and_eq_true_iff.mp h3
  have d1 := r1.dp A.low e1.1
  have d2 := r2.dp A.low e2.1
  refine ⟨toP d, toPA ds, d1, ?_, e1.2, h4, ?_⟩
  · rcases h1 with rfl | rfl
    · exact .inl ⟨d2, e2.2⟩
    · exact .inr ⟨d2, e2.2⟩
  · have : (toPA ds).any (fun z => PyData.eqv z (toP d)) = ds.any fun z => eqD z d := by rw [toPA_map, List.any_map]; rfl
    rw [this]
    exact q _ _ L H M .refl A p (.bl _)
end
end Pd
set_option Elab.async false
set_option linter.all false
set_option maxRecDepth 100000
set_option maxHeartbeats 1000000
namespace Pd
open PySem PySem.Spec PyProof.Rows L2
@[simp] def tGFor (wi : TI) (g : TG) (tb : TGn) : TGn := fun D ys σ H => wi σ H fun J H1 => ∃ W : Nat → Nat → List V → L2.St → Hp → Prop, (∃ m, W 0 m ys σ H1) ∧ ∀ i m ys σ H, W i m ys σ H →
  (J.stop i H ∧ D.nx ys σ H) ∨ (J.go i H ∧ ∃ N : List V → L2.St → Hp → Prop, (∀ ys' σ' H', N ys' σ' H' → ∃ m', m' < m ∧ W (i + 1) m' ys' σ' H') ∧ ∀ x H', J.yld i H x H' → g x σ H' fun σ2 H2 => tb { D with nx := N, ct := N, bk := D.nx } ys σ2 H2)
end Pd
set_option Elab.async false
set_option linter.all false
set_option maxRecDepth 100000
set_option maxHeartbeats 1000000
namespace Pd
open PySem PySem.Spec PyProof.Rows L2
structure DGE where
  nx : List D → Rho → Ms → Prop
  rt : List D → D → Ms → Prop
  bk : List D → Rho → Ms → Prop := fun _ _ _ => False
  ct : List D → Rho → Ms → Prop := fun _ _ _ => False
abbrev GX := DGE → XD → List D → Rho → Ms → Prop
def GEndN (K : PySem.W.Frag) (as : List Addr) (L H : Hp) (d : List D → Rho → Ms → Prop) (v : List V → L2.St → Hp → Prop) : Prop := ∀ ys ds σ' ρ' L' H' M', Step as L H as L' H' → At K as M' L' H' → En K as L' σ' ρ' → RpA K as L' ys ds → d ds ρ' M' → v ys σ' H'
structure GComp (K : PySem.W.Frag) (as : List Addr) (L H : Hp) (De : DGE) (D : GEnds) : Prop where
  nx : GEndN K as L H De.nx D.nx
  rt : ∀ ys ds v d L' H' M', Step as L H as L' H' → At K as M' L' H' → RpA K as L' ys ds → De.rt ds d M' → Rp K as L' v d → D.rt ys v H'
  bk : GEndN K as L H De.bk D.bk
  ct : GEndN K as L H De.ct D.ct
theorem GEndN.step {K : PySem.W.Frag} {as : List Addr} {L H L1 H1 : Hp} {M1 : Ms} {d : List D → Rho → Ms → Prop} {v : List V → L2.St → Hp → Prop} (s : Step as L H as L1 H1) (A1 : At K as M1 L1 H1) (h : GEndN K as L H d v) : GEndN K as L1 H1 d v :=
  fun ys ds σ' ρ' L' H' M' s' A' e' r q => h ys ds σ' ρ' L' H' M' (s.trans A1 s') A' e' r q
theorem GComp.step {K : PySem.W.Frag} {as : List Addr} {L H L1 H1 : Hp} {M1 : Ms} {De : DGE} {D : GEnds} (s : Step as L H as L1 H1) (A1 : At K as M1 L1 H1) (h : GComp K as L H De D) : GComp K as L1 H1 De D :=
  ⟨h.nx.step s A1, fun ys ds v d L' H' M' s' A' ry q r => h.rt ys ds v d L' H' M' (s.trans A1 s') A' ry q r, h.bk.step s A1, h.ct.step s A1⟩
section
variable {X : Cx} {E : XK} {st : Stmt} {sts : List Stmt} {pos : Pos}
/-- a statement without yields -/
@[simp] def yOf (t : SX) : GX := fun De Xd ds ρ M => t ⟨De.nx ds, De.rt ds, De.bk ds, De.ct ds⟩ Xd ρ M
@[simp] def yNil : GX := fun De _ ds ρ M => De.nx ds ρ M
@[simp] def ySeq (t u : GX) : GX := fun De Xd ds ρ M => t { De with nx := fun ds' ρ' M' => u De Xd ds' ρ' M' } Xd ds ρ M
@[simp] def yYield (te : DE) : GX := fun De _ ds ρ M => ds.length < sizeLine ∧ te ρ M fun d M1 => De.nx (ds ++ [d]) ρ M1
def yRun (g : DG) (body : GX) (De : DGE) (Xd : XD) : List D → List D → Rho → Ms → Prop
  | [], ds, ρ, M => De.nx ds ρ M
  | d :: r, ds, ρ, M => g d ρ fun ρ' => body { De with nx := fun ds2 ρ2 M2 => yRun g body De Xd r ds2 ρ2 M2, ct := fun ds2 ρ2 M2 => yRun g body De Xd r ds2 ρ2 M2, bk := De.nx } Xd ds ρ' M
@[simp] def yFor (it : DA) (g : DG) (body : GX) : GX := fun De Xd ds ρ M => it ρ M fun is M1 => yRun g body De Xd is ds ρ M1
end
abbrev DCG := List D → Ms → (List D → Ms → Prop) → XD → Prop
def noStop (K : PySem.W.Frag) (C : Addr) : Prop := PySem.W.subIn K (.ref C) (.type "StopIteration") = some false
@[simp] def dListG (K : PySem.W.Frag) (n : Nat) (W : DCG) (tl : DA) : DX := fun ρ M P Xd => tl ρ M fun ds M1 => ds.length = n ∧ W ds M1 (fun out M2 => P (.lst out) M2) (fun C gs M2 => noStop K C ∧ Xd C gs M2)
end Pd
set_option Elab.async false
set_option linter.all false
set_option maxRecDepth 100000
set_option maxHeartbeats 1000000
namespace Pd
open PySem PySem.Spec PyProof.Rows L2
@[simp] def dListGN (n : Nat) (W : DCG) (tl : DA) : DE := fun ρ M P => tl ρ M fun ds M1 => ds.length = n ∧ W ds M1 (fun out M2 => P (.lst out) M2) xNo
section
variable {X : Cx} {e : Expr} {es : List Expr} {tl : DA} {pos pos' p p' : Pos}
@[simp] def oStrI : DC := fun xs M P => ∃ i : Int, xs = [.int i] ∧ i.natAbs.log2 < 1920 ∧ P (.str (toString i)) M
end
theorem lcIn_map {g : DG} {te : DE} {ρ : Rho} {k : List D → Ms → Prop} {M : Ms} (f : D → D) : ∀ (es acc : List D), (∀ e ∈ es, ∀ R : D → Ms → Prop, R (f e) M → g e ρ fun ρ' => te ρ' M R) → acc.length + es.length ≤ sizeLine → k (acc ++ es.map f) M → lcIn g dYes te ρ k es acc M
  | [], acc, _, _, p => by
    show k acc M
    simpa using p
  | d :: r, acc, h, hz, p => by
    rw [List.length_cons] at hz
    exact h d List.mem_cons_self (fun y M2 => acc.length < sizeLine ∧ lcIn g dYes te ρ k r (acc ++ [y]) M2) ⟨by omega, lcIn_map f r (acc ++ [f d]) (fun d' h' => h d' (List.mem_cons_of_mem _ h')) (by rw [List.length_append, List.length_singleton]; omega) (by simpa using p)⟩
theorem lc2_map {g g1 : DG} {it1 : DA} {te : DE} {vs1 : List Nat} {ρ : Rho} {P : D → Ms → Prop} {M : Ms} (f : D → List D) : ∀ (ds acc : List D), (∀ d ∈ ds, ∀ (acc : List D) (k : List D → Ms → Prop), acc.length + (f d).length ≤ sizeLine → k (acc ++ f d) M → g d ρ fun ρ' => it1 ρ' M fun ds1 M2 => lcIn g1 dYes te (wipeR ρ' vs1) k ds1 acc M2) →
    acc.length + (ds.flatMap f).length ≤ sizeLine → P (.lst (acc ++ ds.flatMap f)) M → lc2Run g dYes it1 g1 dYes te vs1 ρ P ds acc M
  | [], acc, _, _, p => by
    show P (.lst acc) M
    simpa using p
  | d :: r, acc, h, hz, p => by
    rw [List.flatMap_cons, List.length_append] at hz
    refine h d List.mem_cons_self acc (fun acc' M' => lc2Run g dYes it1 g1 dYes te vs1 ρ P r acc' M') (by omega) (lc2_map f r (acc ++ f d) (fun d' h' => h d' (List.mem_cons_of_mem _ h')) (by rw [List.length_append]; omega) ?_)
    rw [List.append_assoc, ← List.flatMap_cons]
    exact p
def tI (xs : List Int) : D := .tup (dI xs)
theorem plain_tuples : ∀ es : List (List Int), plainA (es.map tI) = true
  | [] => rfl
  | x :: xs => by show (plainA (dI x) && plainA (xs.map tI)) = true; rw [plain_ints, plain_tuples xs]; rfl
theorem lay_tuples : ∀ es : List (List Int), PyData.canLayAll0 (toPA (es.map tI)) = true
  | [] => rfl
  | x :: xs => by show (PyData.canLayAll0 (toPA (dI x)) && PyData.canLayAll0 (toPA (xs.map tI))) = true; rw [lay_ints, lay_tuples xs]; rfl
theorem depth_tuples : ∀ es : List (List Int), PyData.depthAll (toPA (es.map tI)) ≤ 1
  | [] => Nat.zero_le _
  | x :: xs => by
    show max (PyData.depthAll (toPA (dI x)) + 1) (PyData.depthAll (toPA (xs.map tI))) ≤ 1
    rw [depth_ints]
    have := depth_tuples xs
    omega
theorem okD_tuples (es : List (List Int)) : okD (.lst (es.map tI)) = true := by
  have h1 : plain (.lst (es.map tI)) = true := plain_tuples es
  have h2 : SeqAt.shaped (toP (.lst (es.map tI))) = true := by
    show (PyData.canLayAll0 (toPA (es.map tI)) && decide (PyData.depthAll (toPA (es.map tI)) + 1 ≤ 64)) = true
    have := depth_tuples es
    rw [lay_tuples, decide_eq_true (by omega)]
    rfl
  unfold okD
  rw [h1, h2]
  rfl
end Pd
set_option Elab.async false
set_option linter.all false
set_option maxRecDepth 100000
set_option maxHeartbeats 1000000
namespace Pd
open PySem PySem.Spec PyProof.Rows L2
section
variable {K : PySem.W.Frag} {x : Addr} {as : List Addr} {M1 : Ms} {L1 H1 : Hp}
theorem hid_step (hx : H1 x = none) (o : HO) : Step as L1 H1 as L1 (upd H1 x o) := by
  refine ⟨fun a u _ h => ?_, Ex.refl _, fun _ h _ => h, Pre.refl _, fun _ h => .inl h⟩
  rw [upd_ne (ne_of_none h hx)]; exact h
theorem hid_at (A1 : At K as M1 L1 H1) (hx : H1 x = none) (o : HO) : At K as M1 L1 (upd H1 x o) := by
  refine ⟨fun a u h => ?_, A1.len, A1.nd, fun k a m e1 e2 => ?_, A1.nt⟩
  · rw [upd_ne (ne_of_none (A1.low a u h) hx)]; exact A1.low a u h
  · obtain ⟨h3, u, h4, h5⟩ := A1.mo k a m e1 e2
    exact ⟨h3, u, by rw [upd_ne (ne_of_none h4 hx)]; exact h4, h5.1, h5.2.keep (KeepC.new hx)⟩
theorem list_out {M4 : Ms} {ds : List D} {L3 H3 : Hp} (A1 : At K as M1 L1 H1) (hx : H1 x = none) (s3 : Step (as ++ [x]) L1 (upd H1 x (.lst [])) (as ++ [x]) L3 H3) (A3 : At K (as ++ [x]) (M4 ++ [.lst ds]) L3 H3)
    (hl4 : M4.length = M1.length) (hap : apartA M1.length ds = true) (hapM : apartM M1.length M4 = true) : ∃ L4, Ex L3 L4 ∧ Step as L1 H1 as L4 H3 ∧ At K as M4 L4 H3 ∧ Rp K as L4 (.ref x) (.lst ds) := by
  have xa : x ∉ as := fun z => (A1.held z).2 hx
  have lx : L1 x = none := lowfree A1 hx
  have e0 : ∀ b o, H1 b = some o → (upd H1 x (.lst [])) b = some o := fun b o e => by
    rw [upd_ne (ne_of_none e hx)]
    exact e
  have gx : (as ++ [x])[as.length]? = some x := by rw [List.getElem?_append_right (Nat.le_refl _), Nat.sub_self]; rfl
  have gm : (M4 ++ [MO.lst ds])[as.length]? = some (.lst ds) := by rw [A1.len, ← hl4, List.getElem?_append_right (Nat.le_refl _), Nat.sub_self]; rfl
  obtain ⟨xs, g1, g2⟩ := A3.lst gx gm
  have g3 : RpA K as L3 xs ds := g2.cut (by rw [A1.len]; exact hap)
  have lx3 : L3 x = none := s3.hid x lx (by rw [upd_same]; simp)
  have A4 : At K as M4 (upd L3 x (.lst xs)) H3 := by
    refine ⟨fun b o e => ?_, by rw [hl4]; exact A1.len, A1.nd, fun k a m e1 e2 => ?_, A3.nt.new (fun ps z => by cases z)⟩
    · by_cases hb : b = x
      · subst hb; rw [upd_same] at e; cases e; exact g1
      · rw [upd_ne hb] at e; exact A3.low b o e
    · have hk : k < as.length := (List.getElem?_eq_some_iff.mp e1).1
      obtain ⟨h5, o, h6, h7⟩ := A3.mo k a m (by rw [List.getElem?_append_left hk]; exact e1) (by rw [List.getElem?_append_left (by rw [hl4, ← A1.len]; exact hk)]; exact e2)
      have hax : a ≠ x := fun z => xa (by rw [← z]; exact List.mem_of_getElem? e1)
      exact ⟨by rw [upd_ne hax]; exact h5, o, h6, (h7.1.cut (List.mem_of_getElem? e2) (by rw [A1.len]; exact hapM)).mono (Ex.new lx3) (Pre.refl _), h7.2⟩
  have s4 : Step as L1 H1 as (upd L3 x (.lst xs)) H3 := by
    refine ⟨fun b o hb e => ?_, fun b o e => ?_, fun b e e' => ?_, Pre.refl _, fun _ e => .inl e⟩
    · have hbx : b ≠ x := ne_of_none e hx
      refine s3.up b o (fun z => ?_) (e0 b o e)
      rcases List.mem_append.mp z with z | z
      · exact hb z
      · exact hbx (List.mem_singleton.mp z)
    · rw [upd_ne (fun z => by rw [z, lx] at e; cases e)]; exact s3.k b o e
    · have hbx : b ≠ x := fun z => e' (by rw [z]; exact hx)
      rw [upd_ne hbx]
      refine s3.hid b e ?_
      cases q2 : H1 b with
      | none => exact absurd q2 e'
      | some o => rw [e0 b o q2]; simp
  exact ⟨_, Ex.new lx3, s4, A4, .lst (.inl (.inl upd_same)) (g3.mono (Ex.new lx3) (Pre.refl _))⟩
end
@[simp] def sBuild (i : Nat) (t rest : DS) : DS := fun De ρ M => t { nx := (fun ρ' M' => ∃ M3 ds, M' = M3 ++ [MO.lst ds] ∧ M3.length = M.length ∧ apartM M.length M3 = true ∧ apartA M.length ds = true ∧ (ρ'[i]? = some (some (D.mu M.length))) ∧ rest De ((clean M.length ρ').set i (some (.lst ds))) M3), rt := cutR M.length De.rt, bk := cutE M.length De.bk, ct := cutE M.length De.ct } (ρ.set i (some (.mu M.length))) (M ++ [.lst []])
section
variable {X : Cx} {st : Stmt} {sts : List Stmt} {t s2 : DS} {pos p1 : Pos}
theorem pdss_build {i : Nat} {y : Str} {p' : Pos} (hN : X.N.Nodup) (ht : PDS X st t) (hrest : PDSs X sts s2) (hi : X.N[i]? = some y := by rfl) (hy : Loc X.env.scope y := by first | exact Or.inl rfl | exact Or.inr rfl) (hs : swapsWith (.List [] p1) (some (.Name y p')) pos.line X.env = pure false := by rfl)
    (hf : X.fn y = true ∨ X.env.scope.names.lookup y = some .local := by first | exact .inl rfl | exact .inr rfl | assumption) : PDSs X (.Assign [.Name y p'] (.List [] p1) pos :: st :: sts) (sBuild i t s2) := by
  obtain ⟨u, pt, stt⟩ := ht.ex
  obtain ⟨ur, pr, sr⟩ := hrest.ex
  refine ⟨_, pss_cons (ps_set hN hi hy (pe_lst pa_nil) hs hf) (pss_cons pt pr), ?_⟩
  intro as σ ρ L H M De D hE A h c
  refine ⟨Nat.zero_le _, fun x hx => ?_⟩
  have xa : x ∉ as := fun z => (A.held z).2 hx
  have lx : L x = none := lowfree A hx
  have Ah : At X.K as M L (upd H x (.lst [])) := hid_at A hx _
  have sh : Step as L H as L (upd H x (.lst [])) := hid_step hx _
  have A2 := Ah.add (xs := []) (ds := []) upd_same lx xa .nil
  have gx : (as ++ [x])[M.length]? = some x := by rw [← A.len, List.getElem?_append_right (Nat.le_refl _), Nat.sub_self]; rfl
  have E2 : En X.K (as ++ [x]) L (σ.set i (some (.ref x))) (ρ.set i (some (.mu M.length))) := (hE.mono (Ex.refl _) (pre_app _ _)).set i (.mu gx)
  have fin : ∀ {d : Rho → Ms → Prop} {v : L2.St → Hp → Prop}, EndN X.K as L H d v → EndN X.K (as ++ [x]) L (upd H x (.lst [])) (cutE M.length d) v := by
    intro d v hd σ' ρ' L' H' M' s' A' e' q
    obtain ⟨M3, m', rfl, hl, hap, q⟩ := q
    rw [← A.len] at hap q
    exact hd σ' _ L' H' M3 (sh.cutx Ah hx s') (A'.cut hap) e'.cut q
  refine stt (as ++ [x]) _ _ L (upd H x (.lst [])) _ _ _ E2 A2 h ⟨?_, fun v d L' H' M' s' A' q rv => ?_, fin c.bk, fin c.ct⟩
  · intro σ' ρ' L' H' M' s' A' e' q
    obtain ⟨M3, ds, rfl, hl, hap, hapd, hmu, q⟩ := q
    obtain ⟨L4, x4, s4, A4, r4⟩ := list_out A hx s' A' hl hapd hap
    obtain ⟨v, hv, rv⟩ := e'.at_ i _ hmu
    have ev : v = .ref x := by
      cases rv with
      | mu hk => rw [gx] at hk; cases hk; rfl
    subst ev
    have same : σ'.set i (some (.ref x)) = σ' := by
      apply List.ext_getElem?
      intro j
      rw [List.getElem?_set]
      split
      · rename_i e; subst e
        split
        · exact hv.symm
        · rename_i hlt; exact absurd (List.getElem?_eq_some_iff.mp hv).1 hlt
      · rfl
    have e4 : En X.K as L4 σ' ((clean M.length ρ').set i (some (.lst ds))) := by
      rw [← same, ← A.len]
      exact (e'.cut.mono x4 (Pre.refl _)).set i r4
    exact sr as σ' _ L4 H' M3 De D e4 A4 q (c.step s4 A4)
  · obtain ⟨M3, m', rfl, hl, hap, hd, q⟩ := q
    rw [← A.len] at hap hd
    exact c.rt v d L' H' M3 (sh.cutx Ah hx s') (A'.cut hap) q (rv.cut hd)
@[simp] def dApp (i : Nat) (te : DE) : DE := fun ρ M P => ∃ k, ρ[i]? = some (some (.mu k)) ∧ (∃ ds, M[k]? = some (.lst ds)) ∧ te ρ M fun d M1 => ∃ ds, M1[k]? = some (.lst ds) ∧ ds.length < sizeLine ∧ P .non (M1.set k (.lst (ds ++ [d])))
theorem pd_append (i : Nat) {e : Expr} {te : DE} {x : Str} {ap pos p : Pos} (he : PD X e te) (hN : X.N[i]? = some x := by rfl) (hv : Vis X.env.scope x := by first | exact Or.inl rfl | exact Or.inr (Or.inl rfl) | exact Or.inr (Or.inr rfl)) (hd : (x == ("__debug__" : Str)) = false := by decide)
    (hcd : (x == ("__classdict__" : Str)) = false := by decide) (hab : attributeBase (.Name x p) "append" X.env (eval (.Name x p) X.env) = eval (.Name x p) X.env := by rfl) (hs : starEach [e] X.env = (false, eval e X.env) :: starEach [] X.env := by rfl)
    (hfew : (((backTo pos (starEach [e] X.env)).all fun x => !x.1) && ((backToKw pos (keywordEach [] X.env)).all fun x => x.1.isSome) && decide ([e].length + ([] : List Keyword).length + (if ([] : List Keyword).isEmpty = true then 0 else 1) < 30)) = true := by rfl)
    (hline : (ap.endLine == pos.line) = true := by rfl) : PD X (.Call (.Attribute (.Name x p) "append" ap) [e] [] pos) (dApp i te) := by
  obtain ⟨u, pe, s⟩ := he.ex
  refine ⟨_, pe_bm PySem.F.plainAttrs_list PySem.F.slot_list_append PySem.F.type_list_append mt_append (pv i hN hv hd hcd) (pa_cons pe pa_nil hs) hab hfew hline hs rfl, ?_⟩
  intro as σ ρ L H M P Q hE A h q
  obtain ⟨k, hk, ⟨ds0, h0⟩, h⟩ := h
  obtain ⟨v, hv, rv⟩ := hE.at_ i _ hk
  cases rv with
  | mu ha =>
    obtain ⟨xs0, g1, g2⟩ := A.lst ha h0
    refine ⟨_, hv, .inl ⟨rfl, xs0, .inl (.inl g1)⟩, ?_⟩
    refine s as σ ρ L H M _ _ hE A h fun v d L1 H1 M1 s1 A1 h1 r1 => ?_
    obtain ⟨ds, hm, hz, p⟩ := h1
    obtain ⟨xs, g3, g4⟩ := A1.lst ha hm
    refine ⟨_, xs, v, rfl, rfl, g3, by rw [g4.length]; exact hz, ?_⟩
    exact q .non .non L1 _ _ (s1.trans A1 (Step.put (List.mem_of_getElem? ha))) (A1.put ha (.lst (g4.append (.one r1)))) p .non
end
end Pd
set_option Elab.async false
set_option linter.all false
set_option maxRecDepth 100000
set_option maxHeartbeats 1000000
namespace Pd
open PySem PySem.Spec PyProof.Rows L2
/-- the type of an operand that the class's operator may meet -/
def Opd (K : PySem.W.Frag) (C : Addr) (op : Operator) (t : Value) : Prop := t = .ref C ∨ ∃ (T : String) (fo ro : Option Value), t = .type T ∧ PySem.W.findIn K (.type T) (PySem.dunder op.info.2) = some fo ∧ PySem.W.findIn K (.type T) (PySem.dunderR op.info.2) = some ro ∧ PySem.W.subIn K (.type T) (.ref C) = some false
section
variable {X : Cx} {E : XK} {k : Nat} {C g : Addr} {fd : FuncData} {ps : List Str} {W : DCX} {op : Operator} {rc : Option Value} {pos : Pos} {a b : Expr} {ta tb : DE}
@[simp] def dOpX (K : PySem.W.Frag) (C : Addr) (op : Operator) (W : DCX) (ta tb : DE) : DX := fun ρ M P Xd => ta ρ M fun x M1 => tb ρ M1 fun y M2 => ∃ fs t, x = .ins C fs ∧ DTy K y t ∧ Opd K C op t ∧ W [x, y] M2 P Xd
/-- .. where it does not raise -/
@[simp] def dOpXN (K : PySem.W.Frag) (C : Addr) (op : Operator) (W : DCX) (ta tb : DE) : DE := fun ρ M P => dOpX K C op W ta tb ρ M P xNo
end
end Pd
set_option Elab.async false
set_option linter.all false
set_option maxRecDepth 100000
set_option maxHeartbeats 1000000
namespace Pd
open PySem PySem.Spec PyProof.Rows L2
theorem join_ok (sep : Str) (hs : PyData.strOk sep = true) : ∀ ts : List Str, (∀ t ∈ ts, PyData.strOk t = true) → PyData.strOk (Str.join sep ts) = true
  | [], _ => by show PyData.strOk ⟨#[]⟩ = true; unfold PyData.strOk; simp
  | [t], h => h t List.mem_cons_self
  | t :: u :: r, h => by
    show PyData.strOk (t ++ sep ++ Str.join sep (u :: r)) = true
    rw [strOk_append, strOk_append, h t List.mem_cons_self, hs, join_ok sep hs (u :: r) fun x hx => h x (List.mem_cons_of_mem _ hx)]
    rfl
theorem tupleText_ok (ts : List Str) (h : ∀ t ∈ ts, PyData.strOk t = true) : PyData.strOk (tupleText ts) = true := by
  unfold tupleText
  rw [strOk_append, strOk_append, strOk_of, join_ok _ (strOk_of _) ts h]
  split <;> rw [strOk_of] <;> rfl
/-- data whose repr is told, has at most n signs and may be compared; at most k deep -/
structure Sm (n k : Nat) (d : D) : Prop where
  pl : plainR d = true
  sh : (toP d).showable = true
  sz : (reprD d).length ≤ n
  dp : (toP d).depth ≤ k
  ok : PyData.strOk (reprD d) = true
theorem Sm.mono {n n' k k' : Nat} {d : D} (h : Sm n k d) (h1 : n ≤ n') (h2 : k ≤ k') : Sm n' k' d := ⟨h.pl, h.sh, Nat.le_trans h.sz h1, Nat.le_trans h.dp h2, h.ok⟩
theorem Sm.shows {n k : Nat} {d : D} (h : Sm n k d) (h1 : n ≤ sizeLine) (h2 : k ≤ 60) : Shows d := ⟨h.pl, h.sh, Nat.le_trans h.sz h1, Nat.le_trans h.dp h2⟩
theorem plainRA_of : ∀ ds : List D, (∀ d ∈ ds, plainR d = true) → plainRA ds = true
  | [], _ => rfl
  | d :: ds, h => by show (plainR d && plainRA ds) = true; rw [h d List.mem_cons_self, plainRA_of ds fun x hx => h x (List.mem_cons_of_mem _ hx)]; rfl
theorem showA_of : ∀ ds : List D, (∀ d ∈ ds, (toP d).showable = true) → PyData.showableAll (toPA ds) = true
  | [], _ => rfl
  | d :: ds, h => by show ((toP d).showable && PyData.showableAll (toPA ds)) = true; rw [h d List.mem_cons_self, showA_of ds fun x hx => h x (List.mem_cons_of_mem _ hx)]; rfl
theorem depthA_of {k : Nat} : ∀ ds : List D, (∀ d ∈ ds, (toP d).depth ≤ k) → PyData.depthAll (toPA ds) ≤ k
  | [], _ => Nat.zero_le _
  | d :: ds, h => by
    show max (toP d).depth (PyData.depthAll (toPA ds)) ≤ k
    have h1 := h d List.mem_cons_self
    have h2 := depthA_of ds fun x hx => h x (List.mem_cons_of_mem _ hx)
    omega
theorem shownA : ∀ ds : List D, PyData.shownAll (toPA ds) = ds.map reprD
  | [] => rfl
  | d :: ds => by show (toP d).shown :: PyData.shownAll (toPA ds) = _; rw [shownA ds]; rfl
theorem sum_le {n : Nat} : ∀ ds : List D, (∀ d ∈ ds, (reprD d).length ≤ n) → ((ds.map reprD).map fun x => x.length).sum ≤ ds.length * n
  | [], _ => by simp
  | d :: ds, h => by
    have h1 := h d List.mem_cons_self
    have h2 := sum_le ds fun x hx => h x (List.mem_cons_of_mem _ hx)
    rw [List.map_cons, List.map_cons, List.sum_cons, List.length_cons, Nat.succ_mul]
    omega
theorem sm_tup {n k m : Nat} {ds : List D} (h : ∀ d ∈ ds, Sm n k d) (hm : ds.length ≤ m) : Sm (m * (n + 2) + 3) (k + 1) (.tup ds) := by
  have hl : ds.length * n + 2 * ds.length ≤ m * (n + 2) := by
    have := Nat.mul_le_mul_right (n + 2) hm
    rw [Nat.mul_add] at this
    omega
  refine ⟨plainRA_of ds fun d hd => (h d hd).pl, showA_of ds fun d hd => (h d hd).sh, ?_, ?_, ?_⟩
  · show (tupleText (PyData.shownAll (toPA ds))).length ≤ _
    rw [shownA]
    have h1 := tupleText_len_le (ds.map reprD)
    have h2 := sum_le ds fun d hd => (h d hd).sz
    rw [List.length_map] at h1
    omega
  · show PyData.depthAll (toPA ds) + 1 ≤ k + 1
    have := depthA_of ds fun d hd => (h d hd).dp
    omega
  · show PyData.strOk (tupleText (PyData.shownAll (toPA ds))) = true
    rw [shownA]
    refine tupleText_ok _ fun t ht => ?_
    obtain ⟨d, hd, rfl⟩ := List.mem_map.mp ht
    exact (h d hd).ok
/-- .. of at most five signs -/
theorem sm_int5 : ∀ i : Int, i.natAbs ≤ 1001 → Sm 5 0 (.int i) := by
  intro i h
  have key : ∀ n : Fin 1002, (Str.ofString (toString (n.val : Int))).length ≤ 5 ∧ (Str.ofString (toString (-(n.val : Int)))).length ≤ 5 := by decide +kernel
  have hl : i.natAbs.log2 < 1920 := by
    have := Nat.log2_le_self i.natAbs
    omega
  refine ⟨rfl, decide_eq_true hl, ?_, Nat.le_refl _, strOk_of _⟩
  show (Str.ofString (toString i)).length ≤ 5
  have k := key ⟨i.natAbs, by omega⟩
  rcases Int.natAbs_eq i with e | e
  · rw [e]; exact k.1
  · rw [e]; exact k.2
end Pd
set_option Elab.async false
set_option linter.all false
set_option maxRecDepth 100000
set_option maxHeartbeats 1000000
namespace Pd
open PySem PySem.Spec PyProof.Rows L2
@[simp] def oLtT : D2 := fun x y M P => ∃ ns ms : List Int, x = .tup (dI ns) ∧ y = .tup (dI ms) ∧ P (.bl (HT.lexLt ns ms)) M
theorem sr_ltT {K : PySem.W.Frag} : SimR K (rLtT K) oLtT := by
  intro as L H M x y d e P Q A r1 r2 ⟨ns, ms, h1, h2, p⟩ q
  subst h1; subst h2
  cases r1 with
  | tup g1 w1 =>
    cases r2 with
    | tup g2 w2 =>
      have e1 := w1.ints
      have e2 := w2.ints
      subst e1; subst e2
      exact ⟨_, _, ns, ms, rfl, rfl, ex_t A.low g1, ex_t A.low g2, q _ _ L H M .refl A p (.bl _)⟩
end Pd
set_option Elab.async false
set_option linter.all false
set_option maxRecDepth 100000
set_option maxHeartbeats 1000000
namespace Pd
open PySem PySem.Spec PyProof.Rows L2
def rSlS (K : PySem.W.Frag) (x : V) (lo hi : Option Int) (H : Hp) (Q : VK) : Prop := rSlL K x lo hi H Q ∨ rSlA K x lo hi H Q
theorem sl_seq {X : Cx} : SlR X (rSlS X.K) := by
  intro pins s σ H x v vl vu lo hi sl Q I r hs p1 p2 h
  rcases h with h | h
  · exact sl_list pins s σ H x v vl vu lo hi sl Q I r hs p1 p2 h
  · exact sl_tupA pins s σ H x v vl vu lo hi sl Q I r hs p1 p2 h
def likeD : D → List D → D
  | .lst _, xs => .lst xs
  | .tup _, xs => .tup xs
  | d, _ => d
theorem cutD_whole {ds : List D} {l u : Option Int} (h : HT.sIx ds.length 0 l = 0 ∧ HT.sIx ds.length ds.length u = ds.length) : cutD ds l u = ds := by
  unfold cutD
  rw [h.1, h.2]
  simp
@[simp] def dSlS (t : DE) (tl tu : DO) : DE := fun ρ M P => t ρ M fun d M1 => ∃ ds, isSeq d ds ∧ tl ρ M1 fun l M2 => tu ρ M2 fun u M3 => P (likeD d (cutD ds l u)) M3
section
variable {X : Cx} {e : Expr} {lo hi : Option Expr} {t : DE} {tl tu : DO} {p2 pos : Pos}
theorem pd_slS (he : PD X e t) (hl : PDO X lo tl) (hu : PDO X hi tu) : PD X (.Subscript e (.Slice lo hi none p2) pos) (dSlS t tl tu) := by
  obtain ⟨u, p, s⟩ := he.ex
  obtain ⟨ul, pl, sl⟩ := hl.ex
  obtain ⟨uu, pu, su⟩ := hu.ex
  refine ⟨_, pe_slice sl_seq p pl pu, ?_⟩
  intro as σ ρ L H M P Q hE A h q
  refine s as σ ρ L H M _ _ hE A h fun v d L1 H1 M1 s1 A1 h1 r1 => ?_
  obtain ⟨ds, hd, h1⟩ := h1
  refine sl as σ ρ L1 H1 M1 _ _ (hE.mono s1.k s1.pre) A1 h1 fun l L2 H2 M2 s2 A2 h2 => ?_
  have s12 := s1.trans A1 s2
  refine su as σ ρ L2 H2 M2 _ _ (hE.mono s12.k s12.pre) A2 h2 fun w L3 H3 M3 s3 A3 h3 => ?_
  have s23 := s2.trans A2 s3
  rcases hd with rfl | rfl
  · cases r1 with
    | lst hs ra =>
      refine .inl ⟨_, _, rfl, ex_l (s23.k.trans A3.low) hs, fun p hp => ?_⟩
      have lp := lowfree A3 hp
      exact q _ _ _ _ M3 ((s12.trans A2 s3).trans A3 (Step.know A3 hp)) (A3.know hp) h3 (.lst (.inl (.inl upd_same)) ((ra.slice l w).mono (s23.k.trans (Ex.new lp)) (Pre.refl _)))
  · have r1' := r1
    cases r1 with
    | tup hs ra =>
      refine .inr ⟨_, _, rfl, ex_t (s23.k.trans A3.low) hs, fun hw => ?_, fun _ p hp => ?_⟩
      · rw [ra.length] at hw
        have h3' : P (likeD (.tup ds) (cutD ds l w)) M3 := h3
        rw [cutD_whole hw] at h3'
        exact q _ _ _ _ M3 (s12.trans A2 s3) A3 h3' (r1'.mono s23.k (Pre.refl _))
      · have lp := lowfree A3 hp
        exact q _ _ _ _ M3 ((s12.trans A2 s3).trans A3 (Step.know A3 hp)) (A3.know hp) h3 (.tup (.inl (.inl upd_same)) ((ra.slice l w).mono (s23.k.trans (Ex.new lp)) (Pre.refl _)))
end
@[simp] def dFldMu (K : PySem.W.Frag) (t : DE) (f : Str) : DE := fun ρ M P => t ρ M fun x M1 => ∃ j C fs v, x = .mu j ∧ M1[j]? = some (.ins C fs) ∧ Cls K C ∧ NoAttr K C f ∧ fs.lookup f = some v ∧ P v M1
theorem pd_fldMu {X : Cx} {K : PySem.W.Frag} {e : Expr} {t : DE} {pos : Pos} {f : Str} (hK : X.K = K) (he : PD X e t) (hb : attributeBase e f X.env (eval e X.env) = eval e X.env := by rfl) : PD X (.Attribute e f pos) (dFldMu K t f) := by
  subst hK
  obtain ⟨u, p, s⟩ := he.ex
  refine ⟨_, pe_fld p hb, ?_⟩
  intro as σ ρ L H M P Q hE A h q
  refine s as σ ρ L H M _ _ hE A h fun v d L1 H1 M1 s1 A1 h1 r1 => ?_
  obtain ⟨j, C, fs, w, rfl, hm, c, n, hl, p⟩ := h1
  cases r1 with
  | mu hj =>
    obtain ⟨dx, fv, g1, g2⟩ := A1.ins hj hm
    obtain ⟨z, h2, h3⟩ := g2.look hl
    exact ⟨_, C, _, _, z, rfl, g1, c, n, h2, q _ _ L1 H1 M1 s1 A1 p h3⟩
end Pd
set_option Elab.async false
set_option linter.all false
set_option maxRecDepth 100000
set_option maxHeartbeats 1000000
namespace Pd
open PySem PySem.Spec PyProof.Rows L2
@[simp] def iKeyD (t : DE) : DA := fun ρ M P => t ρ M fun d M1 => ∃ ks ds, d = .dic ks ds ∧ P (ks.map keyD) M1
section
variable {X : Cx} {e tg : Expr} {t : DE} {pos : Pos}
/-- an expression that is not come to -/
@[simp] def dNeverT : DT := fun _ _ _ => False
@[simp] def dNever : DE := fun _ _ _ => False
def repS (z : Str) (k : Int) : Str := if k = 1 then z else ⟨(List.replicate k.toNat z.cps).foldl (· ++ ·) #[]⟩
@[simp] def oRepS : D2 := fun x y M P => ∃ (z : Str) (k : Int), x = .str z ∧ y = .int k ∧ 1 ≤ k ∧ k ≤ 1000 ∧ 1 ≤ z.length ∧ z.length ≤ 1000 ∧ P (.str (repS z k)) M
@[simp] def dRevL (t : DE) : DE := fun ρ M P => t ρ M fun d M1 => ∃ ds, d = .lst ds ∧ P (.lst ds.reverse) M1
theorem RpA.rev {K : PySem.W.Frag} {as : List Addr} {L : Hp} : ∀ {vs : List V} {ds : List D}, RpA K as L vs ds → RpA K as L vs.reverse ds.reverse
  | _, _, .nil => .nil
  | _, _, .cons r t => by
    rw [List.reverse_cons, List.reverse_cons]
    exact (RpA.rev t).append (.one r)
end
section
variable {X : Cx} {e0 : Expr} {es : List Expr} {st : Stmt} {sts : List Stmt} {t s2 : DS} {pos p1 p : Pos} {te : DE} {tl : DA}
@[simp] def lDisp (tl : DA) : DA := fun ρ M P => tl ρ M fun ds M1 => ds.length ≤ sizeLine ∧ P ds M1
@[simp] def lList (tl : DA) : DA := fun ρ M P => tl ρ M fun ds M1 => ∃ d xs, ds = [d] ∧ isSeq d xs ∧ P xs M1
@[simp] def sBuildN (i : Nat) (tl : DA) (t rest : DS) : DS := fun De ρ M => tl ρ M fun ds0 M1 => t { nx := (fun ρ' M' => ∃ M3 ds, M' = M3 ++ [MO.lst ds] ∧ M3.length = M1.length ∧ apartM M1.length M3 = true ∧ apartA M1.length ds = true ∧ (ρ'[i]? = some (some (D.mu M1.length))) ∧ rest De ((clean M1.length ρ').set i (some (.lst ds))) M3), rt := cutR M1.length De.rt, bk := cutE M1.length De.bk, ct := cutE M1.length De.ct } (ρ.set i (some (.mu M1.length))) (M1 ++ [.lst ds0])
end
end Pd
set_option Elab.async false
set_option linter.all false
set_option maxRecDepth 100000
set_option maxHeartbeats 3200000
namespace Pd
open PySem PySem.Spec PyProof.Rows L2
section
variable {X : Cx} {e : Expr} {t : DE} {pos pos2 p p2 : Pos}
theorem rp_ints {K : PySem.W.Frag} {as : List Addr} {L : Hp} : ∀ ns : List Int, RpA K as L (ns.map V.int) (dI ns)
  | [] => .nil
  | n :: ns => .cons (.int n) (rp_ints ns)
/-- sorted(set(e)), e a list of ints -/
@[simp] def dSortSet (t : DE) : DE := fun ρ M P => t ρ M fun d M1 => ∃ ns : List Int, d = .lst (dI ns) ∧ ns.length < 64 ∧ ∀ ms : List Int, ms.Pairwise (· < ·) → (∀ k, k ∈ ms ↔ k ∈ ns) → P (.lst (dI ms)) M1
end
@[simp] def sBuildP (i j : Nat) (ta : DE) (t rest : DS) : DS := fun De ρ M => ta ρ M fun d M1 => t { nx := (fun ρ' M' => ∃ M3 ds, M' = M3 ++ [MO.lst ds] ∧ M3.length = M1.length ∧ apartM M1.length M3 = true ∧ apartA M1.length ds = true ∧ (ρ'[j]? = some (some (D.mu M1.length))) ∧ rest De ((clean M1.length ρ').set j (some (.lst ds))) M3), rt := cutR M1.length De.rt, bk := cutE M1.length De.bk, ct := cutE M1.length De.ct } ((ρ.set i (some d)).set j (some (.mu M1.length))) (M1 ++ [.lst []])
end Pd
set_option Elab.async false
set_option linter.all false
set_option maxRecDepth 100000
set_option maxHeartbeats 4000000
namespace Pd
open PySem PySem.Spec PyProof.Rows L2
theorem p29 : (0 : Int) < 2147483629 := by decide
theorem p47 : (0 : Int) < 2147483647 := by decide
theorem z2 : 2 ≤ sizeLine := by decide
/-- the law's source is changeable object number k -/
def SrcAt (k : Nat) (M : Ms) : Prop := ∃ n s : Int, M[k]? = some (.lst [.int n, .int s]) ∧ 0 ≤ s ∧ s < 2147483647
theorem SrcAt.set {k : Nat} {M : Ms} (h : SrcAt k M) {n s : Int} (h0 : 0 ≤ s) (h1 : s < 2147483647) : SrcAt k (M.set k (.lst [.int n, .int s])) := by
  obtain ⟨_, _, e, _⟩ := h
  exact ⟨n, s, List.getElem?_set_self (List.getElem?_eq_some_iff.mp e).1, h0, h1⟩
theorem lc_fmap {g : DG} {tt : DT} {te : DE} {ρ : Rho} {P : D → Ms → Prop} {M : Ms} (f : D → Option D) : ∀ (ds acc : List D), (∀ d ∈ ds, ∀ (R : D → Ms → Prop) (S : Ms → Prop), (∀ y, f d = some y → R y M) → (f d = none → S M) → g d ρ fun ρ' => tt ρ' M fun b M1 => if b = true then te ρ' M1 R else S M1) →
    acc.length + ds.length ≤ sizeLine → P (.lst (acc ++ ds.filterMap f)) M → lcRun g tt te ρ P ds acc M
  | [], acc, _, _, p => by
    show P (.lst acc) M
    simpa using p
  | d :: r, acc, h, hz, p => by
    rw [List.length_cons] at hz
    refine h d List.mem_cons_self (fun y M2 => acc.length < sizeLine ∧ lcRun g tt te ρ P r (acc ++ [y]) M2) (fun M1 => lcRun g tt te ρ P r acc M1) (fun y hy => ⟨by omega, ?_⟩) fun hn => ?_
    · refine lc_fmap f r (acc ++ [y]) (fun d' h' => h d' (List.mem_cons_of_mem _ h')) (by rw [List.length_append, List.length_singleton]; omega) ?_
      rw [List.filterMap_cons, hy] at p
      simpa using p
    · refine lc_fmap f r acc (fun d' h' => h d' (List.mem_cons_of_mem _ h')) (by omega) ?_
      rw [List.filterMap_cons, hn] at p
      exact p
theorem srcAt {k : Nat} {M : Ms} (hk : k < M.length) {n s : Int} (h0 : 0 ≤ s) (h1 : s < 2147483647) : SrcAt k (M.set k (.lst [.int n, .int s])) := ⟨n, s, List.getElem?_set_self hk, h0, h1⟩
theorem okM_set {k : Nat} {M : Ms} (h : okM M) (a b : Int) : apartM M.length (M.set k (.lst [.int a, .int b])) = true := by
  refine List.all_eq_true.mpr fun mo hmo => ?_
  rcases List.mem_or_eq_of_mem_set hmo with h2 | rfl
  · exact List.all_eq_true.mp h mo h2
  · rfl
/-- the objects as they are, but for the source -/
def Cu (k : Nat) (M M1 : Ms) : Prop := ∃ n s : Int, 0 ≤ s ∧ s < 2147483647 ∧ M1 = M.set k (.lst [.int n, .int s])
theorem Cu.mk0 {k : Nat} {M : Ms} (h : SrcAt k M) : Cu k M M := by
  obtain ⟨n, s, e, a, b⟩ := h
  refine ⟨n, s, a, b, ?_⟩
  apply List.ext_getElem?
  intro j
  rw [List.getElem?_set]
  split
  · rename_i e2; subst e2
    first | exact e | rw [if_pos (List.getElem?_eq_some_iff.mp e).1, e]
  · rfl
section
variable {k j : Nat} {M M1 : Ms} {mo : MO}
theorem Cu.len (c : Cu k M M1) : M1.length = M.length := by obtain ⟨_, _, _, _, rfl⟩ := c; exact List.length_set
theorem Cu.src (c : Cu k M M1) (hk : k < M.length) : SrcAt k M1 := by obtain ⟨n, s, a, b, rfl⟩ := c; exact srcAt hk a b
theorem Cu.set (c : Cu k M M1) {n s : Int} (h0 : 0 ≤ s) (h1 : s < 2147483647) : Cu k M (M1.set k (.lst [.int n, .int s])) := by
  obtain ⟨_, _, _, _, rfl⟩ := c
  exact ⟨n, s, h0, h1, List.set_set _⟩
theorem Cu.ok (c : Cu k M M1) (h : okM M) : okM M1 := by
  have e := c.len
  obtain ⟨n, s, _, _, rfl⟩ := c
  unfold okM
  rw [e]
  exact okM_set h n s
theorem Cu.get (c : Cu k M M1) (hj : M[j]? = some mo) (h : j ≠ k) : M1[j]? = some mo := by
  obtain ⟨n, s, _, _, rfl⟩ := c
  rw [List.getElem?_set_ne h.symm]; exact hj
theorem SrcAt.lt (h : SrcAt k M) : k < M.length := by obtain ⟨n, s, e, _⟩ := h; exact (List.getElem?_eq_some_iff.mp e).1
theorem at_rho {t : DS} {De : DEnds} {ρ ρ' : Rho} {M : Ms} (e : ρ = ρ') (h : t De ρ' M) : t De ρ M := e ▸ h
theorem clean_cons (k : Nat) (d : D) (ρ : Rho) (h : apart k d = true) : clean k (some d :: ρ) = some d :: clean k ρ := by
  show (if apart k d = true then some d else none) :: clean k ρ = _
  rw [if_pos h]
end
mutual
theorem apart_up {k k' : Nat} (hk : k ≤ k') : ∀ d : D, apart k d = true → apart k' d = true
  | .non, _ => rfl
  | .bl _, _ => rfl
  | .int _, _ => rfl
  | .str _, _ => rfl
  | .ob _, _ => rfl
  | .ty _, _ => rfl
  | .tfz _, _ => rfl
  | .lst ds, h => apartA_up hk ds h
  | .tup ds, h => apartA_up hk ds h
  | .dic _ ds, h => apartA_up hk ds h
  | .dit _ ds, h => apartA_up hk ds h
  | .ins _ fs, h => apartF_up hk fs h
  | .exc _ fs, h => apartF_up hk fs h
  | .mu j, h => decide_eq_true (Nat.lt_of_lt_of_le (of_decide_eq_true h) hk)
theorem apartA_up {k k' : Nat} (hk : k ≤ k') : ∀ ds : List D, apartA k ds = true → apartA k' ds = true
  | [], _ => rfl
  | d :: ds, h => by
    have h' := Bool.and_eq_true_iff.mp h
    show (apart k' d && apartA k' ds) = true
    rw [apart_up hk d h'.1, apartA_up hk ds h'.2]; rfl
theorem apartF_up {k k' : Nat} (hk : k ≤ k') : ∀ fs : List (Str × D), apartF k fs = true → apartF k' fs = true
  | [], _ => rfl
  | (f, d) :: fs, h => by
    have h' := Bool.and_eq_true_iff.mp h
    show (apart k' d && apartF k' fs) = true
    rw [apart_up hk d h'.1, apartF_up hk fs h'.2]; rfl
end
def isI : D → Bool | .int _ => true | _ => false
/-- the built-in type of data -/
def tyN : D → Option String
  | .non => some "NoneType" | .bl _ => some "bool" | .int _ => some "int" | .str _ => some "str" | .lst _ => some "list" | .tup _ => some "tuple" | .dic _ _ => some "dict" | _ => none
theorem dty {K : PySem.W.Frag} {d : D} {t : String} (h : tyN d = some t) : DTy K d (.type t) := by
  cases d <;> simp only [tyN, Option.some.injEq, reduceCtorEq] at h <;> subst h <;> constructor
/-- has_items -/
def hasB (lo hi : Int) : D → Bool
  | .lst xs => decide (lo ≤ (xs.length : Int)) && decide ((xs.length : Int) ≤ hi)
  | .tup xs => decide (lo ≤ (xs.length : Int)) && decide ((xs.length : Int) ≤ hi)
  | _ => false
theorem seq_or {K : PySem.W.Frag} {d : D} {t : String} (h : tyN d = some t) : (∃ xs, isSeq d xs ∧ PySem.W.kitAny K (.type t) [.type "list", .type "tuple"] = some true ∧ ∀ lo hi, hasB lo hi d = (decide (lo ≤ (xs.length : Int)) && decide ((xs.length : Int) ≤ hi))) ∨ (PySem.W.kitAny K (.type t) [.type "list", .type "tuple"] = some false ∧ ∀ lo hi, hasB lo hi d = false) := by
  cases d <;> simp only [tyN, Option.some.injEq, reduceCtorEq] at h <;> subst h
  case lst xs => exact .inl ⟨xs, .inl rfl, rfl, fun _ _ => rfl⟩
  case tup xs => exact .inl ⟨xs, .inr rfl, rfl, fun _ _ => rfl⟩
  all_goals exact .inr ⟨rfl, fun _ _ => rfl⟩
/-- all_between -/
def btwB (lo hi : Int) : D → Bool
  | .int x => decide (lo ≤ x) && decide (x ≤ hi)
  | _ => false
def itemsD : D → Option (List D) | .lst xs => some xs | .tup xs => some xs | _ => none
theorem isSeq_items {d : D} {xs : List D} (h : isSeq d xs) : itemsD d = some xs := by rcases h with rfl | rfl <;> rfl
theorem cut1 (xs : List D) : Pd.cutD xs (some 1) none = xs.drop 1 := by
  cases xs with
  | nil => rfl
  | cons x r => unfold Pd.cutD; simp [HT.sIx]
/-- data that may be compared, at most k deep -/
structure Lay (k : Nat) (d : D) : Prop where
  pl : plain d = true
  la : PyData.canLay0 (toP d) = true
  dp : (toP d).depth ≤ k
theorem Lay.up {k k' : Nat} {d : D} (h : Lay k d) (hk : k ≤ k') : Lay k' d := ⟨h.pl, h.la, Nat.le_trans h.dp hk⟩
theorem layA {k : Nat} : ∀ ds : List D, (∀ d ∈ ds, Lay k d) → plainA ds = true ∧ PyData.canLayAll0 (toPA ds) = true ∧ PyData.depthAll (toPA ds) ≤ k
  | [], _ => ⟨rfl, rfl, Nat.zero_le _⟩
  | d :: ds, h => by
    obtain ⟨a, b, c⟩ := layA ds fun x hx => h x (List.mem_cons_of_mem _ hx)
    have x := h d List.mem_cons_self
    refine ⟨?_, ?_, ?_⟩
    · show (plain d && plainA ds) = true; rw [x.pl, a]; rfl
    · show (PyData.canLay0 (toP d) && PyData.canLayAll0 (toPA ds)) = true; rw [x.la, b]; rfl
    · show max (toP d).depth (PyData.depthAll (toPA ds)) ≤ k; exact Nat.max_le.mpr ⟨x.dp, c⟩
theorem okD_lstL {k : Nat} {ds : List D} (h : ∀ d ∈ ds, Lay k d) (hk : k ≤ 60) : okD (.lst ds) = true := by
  obtain ⟨a, b, c⟩ := layA ds h
  show (plainA ds && (PyData.canLayAll0 (toPA ds) && decide (PyData.depthAll (toPA ds) + 1 ≤ 64))) = true
  rw [a, b, decide_eq_true (by omega)]; rfl
theorem at_val {k : D → Ms → Prop} {d d' : D} {M : Ms} (e : d = d') (h : k d' M) : k d M := e ▸ h
end Pd
set_option Elab.async false
set_option linter.all false
set_option maxRecDepth 100000
set_option maxHeartbeats 3200000
namespace Pd
open PySem PySem.Spec PyProof.Rows L2
section
variable {X : Cx} {e o : Expr} {t td te : DE} {pos p : Pos}
def tTIdx (td te : TE) : TE := fun σ H Q => td σ H fun x H1 => ∃ (a : Addr) (ob : Obj) (ns : List Int), x = .ref a ∧ H1 a = some (.frz ob (.tup (ns.map V.int))) ∧ ob.cls = .type "tuple" ∧ ob.dict = none ∧ tCons te tNil σ H1 fun vs H2 => ∃ k : Int, vs = [.int k] ∧ H2 a = some (.frz ob (.tup (ns.map V.int))) ∧ k ∈ ns ∧ Q (.int (ns.idxOf k)) H2
theorem pe_tidx {ap pos : Pos} (hu : X.A.units + 64 < cLine) {to te : TE} (ho : PE X o to) (he : PE X e te) (hab : attributeBase o "index" X.env (eval o X.env) = eval o X.env := by rfl) (hs : starEach [e] X.env = (false, eval e X.env) :: starEach [] X.env := by rfl)
    (hfew : (((backTo pos (starEach [e] X.env)).all fun x => !x.1) && ((backToKw pos (keywordEach [] X.env)).all fun x => x.1.isSome) && decide ([e].length + ([] : List Keyword).length + (if ([] : List Keyword).isEmpty = true then 0 else 1) < 30)) = true := by rfl)
    (hline : (ap.endLine == pos.line) = true := by rfl) : PE X (.Call (.Attribute o "index" ap) [e] [] pos) (tTIdx to te) := by
  refine ⟨fun pins s σ H Q I h => ?_⟩
  refine wpAny_Call_method hab hfew hline PySem.F.plainAttrs_tuple PySem.F.slot_tuple_index PySem.F.type_tuple_index (thn (ho.run pins s σ H _ I h) fun u s1 ⟨x, H1, I1, rx, q⟩ => ?_)
  obtain ⟨a, ob, ns, rfl, ha, hc, hd, q⟩ := q
  obtain rfl : u = Value.ref a := rx
  have hg : s1.heap.get? a = some ob := (I1.hok a _ ha).1
  refine ⟨⟨ob, hg, hc⟩, fun b eb => by cases eb; exact ⟨ob, hg, hd⟩, ?_⟩
  refine callWith_method1 (first := [.ref a]) (thn ((pa_cons he pa_nil hs).run pos pins s1 σ H1 (fun vs H2 => ∃ k : Int, vs = [.int k] ∧ H2 a = some (.frz ob (.tup (ns.map V.int))) ∧ k ∈ ns ∧ Q (.int (ns.idxOf k)) H2) I1 q) fun us s2 ⟨vs, H2, I2, r, k, ek, ha2, hm, q2⟩ => ?_) hs rfl
  subst ek
  obtain ⟨u, rfl, ru⟩ := vals1 r
  obtain ⟨tk, rfl⟩ := ru
  obtain ⟨its, hv, hl, _⟩ := I2.tuple (.inl (.inr ⟨ob, ha2⟩))
  obtain ⟨as, hr⟩ := Dp.readsAll I2 _ _ _ (dp_ints ns) hv
  exact PySem.W.index_tuple_datum (α := Int) hl ⟨as, hr⟩ ⟨_, .int _ _⟩ (by show X.A.units + 1 + 0 < cLine; omega) hm ⟨.int (ns.idxOf k), H2, I2.tok _, ⟨_, rfl⟩, q2⟩
@[simp] def dTIdx (td te : DE) : DE := fun ρ M P => td ρ M fun d M1 => ∃ ns : List Int, d = .tfz ns ∧ te ρ M1 fun y M2 => ∃ k : Int, y = .int k ∧ k ∈ ns ∧ P (.int (ns.idxOf k)) M2
theorem pd_tidx {ap pos : Pos} (hu : X.A.units + 64 < cLine) (ho : PD X o td) (he : PD X e te) (hab : attributeBase o "index" X.env (eval o X.env) = eval o X.env := by rfl) (hs : starEach [e] X.env = (false, eval e X.env) :: starEach [] X.env := by rfl)
    (hfew : (((backTo pos (starEach [e] X.env)).all fun x => !x.1) && ((backToKw pos (keywordEach [] X.env)).all fun x => x.1.isSome) && decide ([e].length + ([] : List Keyword).length + (if ([] : List Keyword).isEmpty = true then 0 else 1) < 30)) = true := by rfl)
    (hline : (ap.endLine == pos.line) = true := by rfl) : PD X (.Call (.Attribute o "index" ap) [e] [] pos) (dTIdx td te) := by
  obtain ⟨uo, po, so⟩ := ho.ex
  obtain ⟨u, pe, s⟩ := he.ex
  refine ⟨_, pe_tidx hu po pe hab hs hfew hline, ?_⟩
  intro as σ ρ L H M P Q hE A h q
  refine so as σ ρ L H M _ _ hE A h fun v d L1 H1 M1 s1 A1 h1 r1 => ?_
  obtain ⟨ns, rfl, h1⟩ := h1
  cases r1 with
  | tfz hf =>
    obtain ⟨ob, hf, hc, hd⟩ := hf
    refine ⟨_, ob, ns, rfl, A1.low _ _ hf, hc, hd, ?_⟩
    refine s as σ ρ L1 H1 M1 _ _ (hE.mono s1.k s1.pre) A1 h1 fun v d L2 H2 M2 s2 A2 h2 r2 => ?_
    obtain ⟨k, rfl, hm, p⟩ := h2
    cases r2
    exact ⟨k, rfl, A2.low _ _ (s2.k _ _ hf), hm, q _ _ L2 H2 M2 (s1.trans A1 s2) A2 p (.int _)⟩
def fgD : D → D | .tfz ns => .tup (dI ns) | d => d
theorem rp_ints' {K : PySem.W.Frag} {as : List Addr} {L : Hp} : ∀ ns : List Int, RpA K as L (ns.map V.int) (dI ns)
  | [] => .nil
  | n :: ns => .cons (.int n) (rp_ints' ns)
theorem Rp.fg {K : PySem.W.Frag} {as : List Addr} {L : Hp} {v : V} {d : D} (r : Rp K as L v d) : Rp K as L v (fgD d) := by
  cases r with
  | tfz h => obtain ⟨o, h, _⟩ := h; exact .tup (.inl (.inr ⟨o, h⟩)) (rp_ints' _)
  | non => exact .non
  | bl b => exact .bl b
  | int i => exact .int i
  | str x => exact .str x
  | lst h r => exact .lst h r
  | tup h r => exact .tup h r
  | ins h r => exact .ins h r
  | mu h => exact .mu h
  | ob a => exact .ob a
  | ty n => exact .ty n
  | exc h1 h2 r => exact .exc h1 h2 r
  | exc0 h => exact .exc0 h
  | dic h l r => exact .dic h l r
  | dit h l r => exact .dit h l r
@[simp] def dFg (t : DE) : DE := fun ρ M P => t ρ M fun d M1 => P (fgD d) M1
theorem pd_fg (h : PD X e t) : PD X e (dFg t) := by
  obtain ⟨u, p, s⟩ := h.ex
  refine ⟨u, p, ?_⟩
  intro as σ ρ L H M P Q hE A h q
  exact s as σ ρ L H M _ _ hE A h fun v d L1 H1 M1 s1 A1 h1 r1 => q v _ L1 H1 M1 s1 A1 h1 r1.fg
def rMkT (K : PySem.W.Frag) : List V → Hp → VK → Prop := fun xs H Q => ∃ p ys, xs = [.ref p] ∧ ((SqL K H p ys ∧ ∀ (l : Addr) (o : Obj), o.cls = .type "tuple" → o.dict = none → H l = none → Q (.ref l) (upd H l (.frz o (.tup ys)))) ∨ (SqT K H p ys ∧ Q (.ref p) H))
theorem call_mkT : CallR X (.type "tuple") (rMkT X.K) := by
  intro pins s σ H xs us Q I r h
  obtain ⟨p, ys, rfl, h⟩ := h
  rcases h with ⟨hl, q⟩ | ⟨ht, q⟩
  · obtain ⟨u, rfl, rx⟩ := vals1 r
    obtain rfl : u = Value.ref p := rx
    obtain ⟨its, hv, pl, hz⟩ := I.list hl
    have hz2 : its.toArray.size ≤ sizeLine := by rw [List.size_toArray, ← hv.length]; exact hz
    refine call_tuple_list pl.isList (fun h' keep => ?_) hz2
    have g0 : s.heap.get? h'.objs.size = none := by
      cases e : s.heap.get? h'.objs.size with
      | none => rfl
      | some o => exact absurd (Heap.lt_size (keep _ _ e)) (Nat.lt_irrefl _)
    have gN : (h'.push { cls := .type "tuple", data := .seq its.toArray }).get? h'.objs.size = some { cls := .type "tuple", data := .seq its.toArray } := Heap.get?_push_size _ rfl
    refine ⟨.ref h'.objs.size, _, I.laidN (t' := s.toks) (a := h'.objs.size) (o := .frz { cls := .type "tuple", data := .seq its.toArray } (.tup ys)) (fun b o e => Heap.get?_push_of_some _ (keep b o e)) g0 (I.hok.gone g0) ⟨gN, hz, its, hv, ⟨_, gN, rfl, _, rfl⟩⟩, rfl, q _ _ rfl rfl (I.hok.gone g0)⟩
  · exact call_tuple_of pins s σ H _ us Q I r ⟨p, ys, rfl, .inr ⟨ht, q⟩⟩
end
end Pd
set_option Elab.async false
set_option linter.all false
set_option maxRecDepth 100000
set_option maxHeartbeats 3200000
namespace Pd
open PySem PySem.Spec PyProof.Rows L2
@[simp] def oMkT : DC := fun xs M P => ∃ (d : D) (ns : List Int), xs = [d] ∧ ((d = .lst (dI ns) ∧ P (.tfz ns) M) ∨ (d = .tup (dI ns) ∧ P d M) ∨ (d = .tfz ns ∧ P d M))
theorem sc_mkT {K : PySem.W.Frag} : SimC K (rMkT K) oMkT := by
  intro as L H M xs ds P Q A r ⟨d, ns, h, hd⟩ q
  subst h
  cases r with
  | cons r1 r2 =>
    cases r2
    rcases hd with ⟨rfl, p⟩ | ⟨rfl, p⟩ | ⟨rfl, p⟩
    · cases r1 with
      | lst hs ra =>
        have ev := RpA.ints ra
        subst ev
        exact ⟨_, _, rfl, .inl ⟨ex_l A.low hs, fun l o hc hd hl => q _ _ _ _ M (Step.know A hl) (A.know hl) p (.tfz ⟨o, upd_same, hc, hd⟩)⟩⟩
    · have r0 := r1
      cases r1 with
      | tup hs ra => exact ⟨_, _, rfl, .inr ⟨ex_t A.low hs, q _ _ L H M .refl A p r0⟩⟩
    · have r0 := r1
      cases r1 with
      | tfz hf =>
        obtain ⟨o, hf, _⟩ := hf
        exact ⟨_, _, rfl, .inr ⟨.inl (.inr ⟨o, A.low _ _ hf⟩), q _ _ L H M .refl A p r0⟩⟩
def encR (b : V × List Int) : PyData := .tuple (b.2.map PyData.int)
def leD (a b : List Int) : Bool := !decide (a < b)
theorem leR_eq : PySem.W.dataLe true encR = fun a b => leD a.2 b.2 := by
  rw [PySem.W.dataLe_eq]
  funext a b
  show (!PySem.W.dataLt (encR a) (encR b)) = _
  have : PySem.W.dataLt (encR a) (encR b) = decide (a.2 < b.2) := by
    unfold encR
    rw [PySem.W.dataLt_tuple]; exact PySem.W.dataLt_ints _ _
  rw [this]; rfl
def rSortRev (K : PySem.W.Frag) : List V → List V → Hp → VK → Prop := fun xs zs H Q => ∃ (l : Addr) (bs : List (V × List Int)), xs = [.ref l] ∧ zs = [.bl true] ∧ SqL K H l (bs.map (·.1)) ∧ (∀ b ∈ bs, Dp K H b.1 (encR b) ∧ b.2 ≠ []) ∧
  ∀ p, H p = none → Q (.ref p) (upd H p (.lst ((bs.mergeSort fun a b => leD a.2 b.2).map (·.1))))
theorem each_vals : ∀ {bs : List (V × List Int)} {us : List Value}, Vals (bs.map (·.1)) us → PySem.W.EachIs (fun u b => RelV b.1 u) us bs
  | [], _, r => by cases r; exact .nil
  | b :: bs, _, .cons r t => .cons r (each_vals t)
theorem vals_each : ∀ {bs : List (V × List Int)} {us : List Value}, PySem.W.EachIs (fun u b => RelV b.1 u) us bs → Vals (bs.map (·.1)) us
  | _, _, .nil => .nil
  | _, _, .cons r t => .cons r (vals_each t)
theorem each_reads {X : Cx} {pins : List (Addr × Obj)} {s : Shared} {σ : L2.St} {H : Hp} (I : Inv X pins σ H s) : ∀ {bs : List (V × List Int)} {us : List Value}, (∀ b ∈ bs, Dp X.K H b.1 (encR b) ∧ b.2 ≠ []) → Vals (bs.map (·.1)) us → PySem.W.EachIs (fun u b => ∃ as, Reads s.heap u (encR b) as) us bs
  | [], _, _, r => by cases r; exact .nil
  | b :: bs, _, h, .cons r t => .cons (Dp.reads I _ _ _ (h b List.mem_cons_self).1 r) (each_reads I (fun c hc => h c (List.mem_cons_of_mem _ hc)) t)
theorem cr_sortRev {X : Cx} (hu : X.A.units + 64 < cLine) : CallRK X (.builtin "sorted") ["reverse"] (rSortRev X.K) := by
  intro pins s σ H xs zs us ws Q I r rz h
  obtain ⟨l, bs, rfl, rfl, hl, hb, q⟩ := h
  obtain ⟨u, rfl, rx⟩ := vals1 r
  obtain rfl : u = Value.ref l := rx
  obtain ⟨w, rfl, rw_⟩ := vals1 rz
  obtain rfl : w = Value.bool true := rw_
  obtain ⟨its, hv, pl, hz⟩ := I.list hl
  refine PySem.W.sorted_rev_data (enc := encR) (R := fun u b => RelV b.1 u) (vs := its) (bs := bs) pl.isList (each_vals hv) (each_reads I hb hv) ?_ ?_ (by rw [List.length_map] at hz; exact hz) (fun b _ => ?_) (fun out hlen ho => ?_)
  · refine PySem.W.AllAlike.of fun b b' => ?_
    exact PySem.W.alike_ints b.2 b'.2
  · refine .inl fun d hd => ?_
    obtain ⟨b, hm, rfl⟩ := List.mem_map.mp hd
    have := (hb b hm).2
    unfold encR
    cases e : b.2 with
    | nil => exact absurd e this
    | cons x r => exact ⟨_, _, rfl⟩
  · have : (encR b).depth = 1 := by unfold encR; show (PyData.depthAll _) + 1 = 1; rw [PySem.W.depth_ints]
    omega
  · rw [leR_eq] at ho
    obtain ⟨e, he⟩ := sortedAll_at s.heap its out.toArray
    have keep : ∀ (b : Addr) (o : Obj), s.heap.get? b = some o → (sortedAll s.heap its out.toArray).get? b = some o := fun b o h => sortedAll_old h
    refine ⟨.ref (s.heap.objs.size + 1), _, I.laid (t' := s.toks) (a := s.heap.objs.size + 1) (o := .lst ((bs.mergeSort fun a b => leD a.2 b.2).map (·.1))) keep (Nat.le_succ _) ⟨?_, out, e, vals_each ho, he⟩, rfl, q _ (I.hok.fresh (Nat.le_succ _))⟩
    rw [List.length_map, List.length_mergeSort]
    rw [List.length_map] at hz; exact hz
theorem rp_zip {K : PySem.W.Frag} {as : List Addr} {L H : Hp} (e : Ex L H) : ∀ {xs : List V} {rows : List (List Int)}, (∀ r ∈ rows, r ≠ []) → RpA K as L xs (rows.map D.tfz) → ∃ bs : List (V × List Int), bs.map (·.1) = xs ∧ bs.map (·.2) = rows ∧ (∀ b ∈ bs, Rp K as L b.1 (.tfz b.2)) ∧ ∀ b ∈ bs, Dp K H b.1 (encR b) ∧ b.2 ≠ []
  | _, [], _, h => by cases h; exact ⟨[], rfl, rfl, (fun _ h => nomatch h), (fun _ h => nomatch h)⟩
  | _, r :: rows, hne, h => by
    cases h with
    | cons r1 rt =>
      rename_i v vs
      obtain ⟨bs, h1, h2, h4, h3⟩ := rp_zip e (fun x hx => hne x (List.mem_cons_of_mem _ hx)) rt
      refine ⟨(v, r) :: bs, by rw [List.map_cons, h1], by rw [List.map_cons, h2], fun b hb => ?_, fun b hb => ?_⟩
      · rcases List.mem_cons.mp hb with rfl | hb
        · exact r1
        · exact h4 b hb
      · rcases List.mem_cons.mp hb with rfl | hb
        · exact ⟨r1.dp e rfl, hne r List.mem_cons_self⟩
        · exact h3 b hb
theorem rp_pairs {K : PySem.W.Frag} {as : List Addr} {L : Hp} : ∀ {bs : List (V × List Int)}, (∀ b ∈ bs, Rp K as L b.1 (.tfz b.2)) → RpA K as L (bs.map (·.1)) ((bs.map (·.2)).map D.tfz)
  | [], _ => .nil
  | b :: bs, h => .cons (h b List.mem_cons_self) (rp_pairs fun c hc => h c (List.mem_cons_of_mem _ hc))
section
variable {X : Cx} {e : Expr} {t : DE} {pos p p2 kp : Pos} {kt : Nat}
@[simp] def dSortRev (t : DE) (tk : DA) : DE := fun ρ M P => t ρ M fun d M1 => ∃ rows : List (List Int), d = .lst (rows.map D.tfz) ∧ (∀ r ∈ rows, r ≠ []) ∧ tk ρ M1 fun zs M2 => zs = [.bl true] ∧ P (.lst ((rows.mergeSort leD).map D.tfz)) M2
theorem pd_sortRev {kws : List Keyword} {tk : DA} (hu : X.A.units + 64 < cLine) (hg : Gl X "sorted") (hm : X.mg "sorted" = none) (h : PD X e t) (hk : PDK X kws tk)
    (h1 : backTo pos (starEach [e] X.env) = (false, eval e X.env) :: backTo pos (starEach [] X.env) := by rfl) (h2 : ((backTo pos (starEach [e] X.env)).any fun x => x.1) = false := by rfl)
    (h3 : ((backToKw pos (keywordEach kws X.env)).all fun x => x.1.isSome) = true := by rfl) (h4 : ((backToKw pos (keywordEach kws X.env)).any fun x => x.1.isNone) = false := by rfl) (h5 : List.filterMap (fun x => x.1) (backToKw pos (keywordEach kws X.env)) = [("reverse" : Str)] := by rfl)
    (hs : starEach [e] X.env = (false, eval e X.env) :: starEach [] X.env := by rfl) :
    PD X (.Call (.Name "sorted" p) [e] kws pos) (dSortRev t tk) := by
  obtain ⟨u, pe, s⟩ := h.ex
  obtain ⟨uk, pk, sk⟩ := hk.ex
  refine ⟨_, pe_callBK (cr_sortRev hu) hg hm (by decide +kernel) (pa_cons pe pa_nil hs) pk (by decide) (by decide) h1 h2 h3 h4 h5, ?_⟩
  intro as σ ρ L H M P Q hE A hh q
  refine s as σ ρ L H M _ _ hE A hh fun v d L1 H1 M1 s1 A1 h1 r1 => ?_
  obtain ⟨rows, rfl, hne, h1⟩ := h1
  cases r1 with
  | lst hs ra =>
    refine sk as σ ρ L1 H1 M1 _ _ (hE.mono s1.k s1.pre) A1 h1 fun vs ds L2 H2 M2 s2 A2 h2 r2 => ?_
    obtain ⟨rfl, p⟩ := h2
    cases r2 with
    | cons rb rn =>
      cases rn
      cases rb
      obtain ⟨bs, e1, e2, e4, e3⟩ := rp_zip (A2.low) hne (ra.mono s2.k s2.pre)
      refine ⟨_, bs, rfl, rfl, ?_, e3, fun a ha => ?_⟩
      · rw [e1]; exact ex_l A2.low (ex_l s2.k hs)
      · refine q _ _ _ _ M2 ((s1.trans A1 s2).trans A2 (Step.know A2 ha)) (A2.know ha) p (.lst (.inl (.inl upd_same)) ?_)
        have e5 : (bs.mergeSort fun a b => leD a.2 b.2).map (·.2) = rows.mergeSort leD := by
          rw [← e2]
          exact List.map_mergeSort (fun _ _ _ _ => rfl)
        rw [← e5]
        exact (rp_pairs fun b hb => e4 b ((List.mem_mergeSort).mp hb)).mono (Ex.new (lowfree A2 ha)) (Pre.refl _)
@[simp] def iRev (t : DE) : DA := fun ρ M P => t ρ M fun d M1 => ∃ ds, d = .lst ds ∧ P ds.reverse M1
theorem walks_rev {K : PySem.W.Frag} {as : List Addr} {L0 : Hp} {a : Addr} {xs : List V} {ds : List D} (h : SqL K L0 a xs) (r : RpA K as L0 xs ds) : Walks K (Itv K a xs.length) as L0 ds.reverse := by
  intro L H M e A
  have g1 : SqL K H a xs := ex_l A.low (ex_l e h)
  have hz := r.length
  refine ⟨fun i hi => ?_, by show xs.length ≤ _; rw [List.length_reverse, hz]; exact Nat.le_refl _⟩
  rw [List.length_reverse] at hi
  have hx : xs.length - 1 - i < xs.length := by omega
  refine ⟨⟨by omega, xs, xs[xs.length - 1 - i], g1, List.getElem?_eq_getElem hx⟩, fun x H' y => ?_⟩
  obtain ⟨rfl, hy⟩ := y
  obtain ⟨d, hd, rd⟩ := r.getV (hy xs g1)
  refine ⟨d, L, ?_, .refl, A, rd.mono e (Pre.refl _)⟩
  rw [List.getElem?_reverse (by omega), ← hz]; exact hd
theorem pdi_rev {tg : Expr} (hg : Gl X "reversed") (hm : X.mg "reversed" = none) (h : PD X e t) (hs : starEach [e] X.env = (false, eval e X.env) :: starEach [] X.env := by rfl) : PDI X tg (.Call (.Name "reversed" p) [e] [] pos) (iRev t) := by
  obtain ⟨u, pe, s⟩ := h.ex
  refine ⟨_, RT.pi_revA hg hm pe hs, ?_⟩
  intro as σ ρ L H M P R hE A hh q
  refine s as σ ρ L H M _ _ hE A hh fun v d L1 H1 M1 s1 A1 h1 r1 => ?_
  obtain ⟨ds, rfl, p⟩ := h1
  cases r1 with
  | lst hs ra => exact ⟨_, _, rfl, .inl ⟨ex_l A1.low hs, q _ _ L1 H1 M1 s1 A1 p (walks_rev hs ra)⟩⟩
end
end Pd
set_option Elab.async false
set_option linter.all false
set_option maxRecDepth 100000
set_option maxHeartbeats 3200000
namespace Pd
open PySem PySem.Spec PyProof.Rows L2
def dcRun (g : DG) (tk tv : DE) (ρ : Rho) (P : D → Ms → Prop) : List D → List Key → List D → Ms → Prop
  | [], ks, acc, M => P (.dic ks acc) M
  | d :: r, ks, acc, M => g d ρ fun ρ' => tk ρ' M fun kd M1 => tv ρ' M1 fun y M2 => ∃ k, kd = keyD k ∧ k ∉ ks ∧ acc.length < sizeLine ∧ dcRun g tk tv ρ P r (ks ++ [k]) (acc ++ [y]) M2
@[simp] def dDc (it : DA) (g : DG) (tk tv : DE) (vs : List Nat) : DE := fun ρ M P => it ρ M fun ds M1 => dcRun g tk tv (wipeR ρ vs) P ds [] [] M1
theorem putK_new {ks : List Key} {xs : List V} {k : Key} {v : V} (hl : ks.length = xs.length) (h : k ∉ ks) : putK (ks.zip xs) k v = (ks ++ [k]).zip (xs ++ [v]) := by
  unfold putK
  rw [if_neg, List.zip_append hl]
  · rfl
  · intro z
    obtain ⟨kv, hm, e⟩ := List.any_eq_true.mp z
    have e := of_decide_eq_true e
    exact h (e ▸ (List.of_mem_zip (a := kv.1) (b := kv.2) hm).1)
theorem keyD_rp {K : PySem.W.Frag} {as : List Addr} {L : Hp} {v : V} {k : Key} (r : Rp K as L v (keyD k)) : v = kV k := by
  cases k with
  | inl i => cases r; rfl
  | inr i => cases r; rfl
theorem sim_dc {K : PySem.W.Frag} {wi : TI} {it : DA} {g' : TG} {g : DG} {us : List Nat} {ut : TT} {uk uv : TE} {tk tv : DE} {vs : List Nat} (hus : ∀ i ∈ us, i ∈ vs) (s : SimI K wi it) (sg : SimG K g' g us) (st : SimT K ut dYes) (sk : SimE K uk tk) (se : SimE K uv tv) :
    SimE K (tFrzK (tDc wi g' ut uk uv vs)) (dDc it g tk tv vs) := by
  intro as σ ρ L H M P Q hE A h q
  refine s as σ ρ L H M _ _ hE A h fun J ds L1 H1 M1 s1 A1 h1 w1 => ?_
  intro D hD
  have base : ∀ {L' H' : Hp} {M' : Ms} {acc : List (Key × V)}, At K as M' L' H' → H' D = some (.dK acc) → L' D = none → D ∉ as → ∀ acc', At K as M' L' (upd H' D (.dK acc')) := by
    intro L' H' M' acc A' hd hl hn acc'
    refine ⟨fun a o h => ?_, A'.len, A'.nd, fun k a m e1 e2 => ?_, A'.nt⟩
    · have e : a ≠ D := fun z => by rw [z, hl] at h; cases h
      rw [upd_ne e]; exact A'.low a o h
    · obtain ⟨h3, o, h4, h5⟩ := A'.mo k a m e1 e2
      have e : a ≠ D := fun z => hn (by rw [← z]; exact List.mem_of_getElem? e1)
      exact ⟨h3, o, by rw [upd_ne e]; exact h4, h5.1, h5.2.keep (KeepC.over hd rfl)⟩
  have dn : D ∉ as := fun z => (A1.held z).2 hD
  have ld : L1 D = none := lowfree A1 hD
  refine ⟨fun i m H' => m = ds.length - i ∧ i ≤ ds.length ∧ ∃ L' M' ks xs acc, Step as L1 H1 as L' H' ∧ At K as M' L' H' ∧ H' D = some (.dK (ks.zip xs)) ∧ L' D = none ∧ ks.length = xs.length ∧ RpA K as L' xs acc ∧ dcRun g tk tv (wipeR ρ vs) P (ds.drop i) ks acc M',
    ⟨ds.length, by simp, Nat.zero_le _, L1, M1, [], [], [], ⟨fun a o _ h => ?_, Ex.refl _, fun _ h _ => h, Pre.refl _, fun _ h => .inl h⟩, ?_, upd_same, ld, rfl, .nil, h1⟩, ?_⟩
  · rw [upd_ne (ne_of_none h hD)]; exact h
  · refine ⟨fun a o h => ?_, A1.len, A1.nd, fun k a m e1 e2 => ?_, A1.nt⟩
    · rw [upd_ne (ne_of_none (A1.low a o h) hD)]; exact A1.low a o h
    · obtain ⟨h3, o, h4, h5⟩ := A1.mo k a m e1 e2
      exact ⟨h3, o, by rw [upd_ne (ne_of_none h4 hD)]; exact h4, h5.1, h5.2.keep (KeepC.new hD)⟩
  rintro i m H' ⟨rfl, hi, L', M', ks, xs, acc, s', A', hd', ld', hkl, ra, hf⟩
  obtain ⟨wg, ws⟩ := w1 L' H' M' s'.k A'
  have upD : ∀ {L2 H2 : Hp} {M2 : Ms}, Step as L1 H1 as L2 H2 → At K as M2 L2 H2 → ∀ acc', Step as L1 H1 as L2 (upd H2 D (.dK acc')) := by
    intro L2 H2 M2 s2 A2 acc'
    exact ⟨fun a o ha h => by rw [upd_ne (ne_of_none h hD)]; exact s2.up a o ha h, s2.k, s2.hid, s2.pre, s2.new⟩
  by_cases hlt : i < ds.length
  · obtain ⟨go, wy⟩ := wg i hlt
    rw [List.drop_eq_getElem_cons hlt] at hf
    refine .inr ⟨go, fun H2 => ∃ L' M' ks xs acc, Step as L1 H1 as L' H2 ∧ At K as M' L' H2 ∧ H2 D = some (.dK (ks.zip xs)) ∧ L' D = none ∧ ks.length = xs.length ∧ RpA K as L' xs acc ∧ dcRun g tk tv (wipeR ρ vs) P (ds.drop (i + 1)) ks acc M', fun H2 q => ⟨ds.length - (i + 1), by omega, rfl, hlt, q⟩, fun x H2 y => ?_⟩
    obtain ⟨d, L2, hd, s2, A2, r2⟩ := wy x H2 y
    rw [List.getElem?_eq_getElem hlt] at hd
    cases hd
    have hE2 : En K as L2 (wipeS σ vs) (wipeR ρ vs) := ((hE.mono (s1.k.trans (s'.k.trans s2.k)) (Pre.refl _)).wipe vs)
    have hd2 : H2 D = some (.dK (ks.zip xs)) := s2.up D _ dn hd'
    have ld2 : L2 D = none := s2.hid D ld' (by rw [hd']; simp)
    refine sg as L2 H2 x _ _ _ M' _ _ hE2 A2 r2 hf fun σ3 ρ3 e3 p3 wp => ⟨?_, ?_⟩
    · have z := wp vs hus
      rw [z, wipe_wipe]
    · refine st as σ3 ρ3 L2 H2 M' (fun b M => b = true ∧ tk ρ3 M _) _ e3 A2 ⟨rfl, p3⟩ fun b L3 H3 M3 s3 A3 h3 => ?_
      obtain ⟨rfl, h3⟩ := h3
      have s13 := (s'.trans A' s2).trans A2 s3
      have hd3 : H3 D = some (.dK (ks.zip xs)) := s3.up D _ dn hd2
      have ld3 : L3 D = none := s3.hid D ld2 (by rw [hd2]; simp)
      rw [if_pos rfl]
      refine sk as σ3 ρ3 L3 H3 M3 _ _ (e3.mono s3.k s3.pre) A3 h3 fun kv kd L4 H4 M4 s4 A4 h4 r4 => ?_
      have hd4 : H4 D = some (.dK (ks.zip xs)) := s4.up D _ dn hd3
      have ld4 : L4 D = none := s4.hid D ld3 (by rw [hd3]; simp)
      have s14 := s13.trans A3 s4
      refine se as σ3 ρ3 L4 H4 M4 _ _ ((e3.mono s3.k s3.pre).mono s4.k s4.pre) A4 h4 fun v z L5 H5 M5 s5 A5 h5 r5 => ?_
      obtain ⟨k, rfl, hk, hz, h5⟩ := h5
      have hd5 : H5 D = some (.dK (ks.zip xs)) := s5.up D _ dn hd4
      have ld5 : L5 D = none := s5.hid D ld4 (by rw [hd4]; simp)
      have s15 := s14.trans A4 s5
      have ra5 := ra.mono (s2.k.trans (s3.k.trans (s4.k.trans s5.k))) (Pre.refl as)
      have ek := keyD_rp r4
      refine ⟨ks.zip xs, k, ek, hd5, by rw [List.length_zip, hkl, Nat.min_self, ra.length]; exact hz, L5, M5, ks ++ [k], xs ++ [v], acc ++ [z], upD s15 A5 _, base A5 hd5 ld5 dn _, ?_, ld5, by rw [List.length_append, List.length_append, hkl]; rfl, ra5.append (.one r5), h5⟩
      rw [upd_same, putK_new hkl hk]
  · have e : i = ds.length := by omega
    subst e
    rw [List.drop_length] at hf
    refine .inl ⟨ws, D, ks.zip xs, rfl, hd', fun o => ?_⟩
    have hD0 : H D = none := by
      cases e : H D with
      | none => rfl
      | some o => have := s1.up D _ dn e; rw [hD] at this; cases this
    exact q _ _ _ _ M' ((s1.trans A1 s').shown hD0 ld') (A'.shown ld' dn (KeepC.over hd' rfl) (fun ps z => by cases z)) hf (.dic (vs := xs) ⟨o, upd_same⟩ hkl (ra.mono (Ex.new ld') (Pre.refl _)))
section
variable {X : Cx}
theorem pd_dc {kx vx tg iter : Expr} {scope : Scope} (own : List (Str × Nat)) {pos : Pos} {it : DA} {g : DG} {us : List Nat} {tk tv : DE} (hc : X.calm = true) (hN : X.N.Nodup) (hi : PDI X tg iter it) (ok : BlkOk X.N X.env.scope scope own)
    (hg : ∀ (s : Shared) (H : Hp) (C : Addr) (cl : List (Str × Addr)) (fp : List Addr), PDG (X.blk s H scope (compEnvC scope cl C X.env) fp) tg g us)
    (hk : ∀ (s : Shared) (H : Hp) (C : Addr) (cl : List (Str × Addr)) (fp : List Addr), PD (X.blk s H scope (compEnvC scope cl C X.env) fp) kx tk)
    (he : ∀ (s : Shared) (H : Hp) (C : Addr) (cl : List (Str × Addr)) (fp : List Addr), PD (X.blk s H scope (compEnvC scope cl C X.env) fp) vx tv) (hu : ∀ i ∈ us, i ∈ own.map (·.2) := by decide) (hs : ∀ x, foldedSetIterable iter X.env x = pure x := by intro _; rfl) :
    PD X (.DictComp kx vx [⟨tg, iter, [], 0⟩] scope pos) (dDc it g tk tv (own.map (·.2))) := by
  obtain ⟨wi, p, s⟩ := hi.ex
  have ht : ∀ (s : Shared) (H : Hp) (C : Addr) (cl : List (Str × Addr)) (fp : List Addr), PDTs (X.blk s H scope (compEnvC scope cl C X.env) fp) [] dYes := fun a b c d e => pdts_nil
  exact ⟨_, pe_frzK (pe_dc hc hN p ok (fun a b c d e => (hg a b c d e).up) (fun a b c d e => (ht a b c d e).up) (fun a b c d e => (hk a b c d e).up) (fun a b c d e => (he a b c d e).up) hs), sim_dc hu s (sim_upG g us) (sim_upT dYes) (sim_upE tk) (sim_upE tv)⟩
def dicGet (ks : List Key) (ds : List D) (k : Key) : Option D := ((ks.zip ds).find? fun kv => decide (kv.1 = k)).map (·.2)
@[simp] def dGet2 (td ty tx : DE) : DE := fun ρ M P => td ρ M fun d M1 => ∃ ks ds, d = .dic ks ds ∧ ty ρ M1 fun y M2 => tx ρ M2 fun z M3 => ∃ k, y = keyD k ∧ P ((dicGet ks ds k).getD z) M3
theorem rp_get {K : PySem.W.Frag} {as : List Addr} {L : Hp} (k : Key) : ∀ {ks : List Key} {vs : List V} {ds : List D}, RpA K as L vs ds → (valV (ks.zip vs) k = none ∧ dicGet ks ds k = none) ∨ ∃ v d, valV (ks.zip vs) k = some v ∧ dicGet ks ds k = some d ∧ Rp K as L v d
  | [], vs, ds, _ => .inl ⟨rfl, rfl⟩
  | k0 :: ks, _, _, .nil => .inl ⟨rfl, rfl⟩
  | k0 :: ks, _, _, .cons (v := v) (d := d) r t => by
    by_cases e : k0 = k
    · refine .inr ⟨v, d, ?_, ?_, r⟩
      · unfold valV; rw [List.zip_cons_cons, List.find?_cons_of_pos (by simpa using e)]; rfl
      · unfold dicGet; rw [List.zip_cons_cons, List.find?_cons_of_pos (by simpa using e)]; rfl
    · rcases rp_get k (ks := ks) t with ⟨h1, h2⟩ | ⟨v', d', h1, h2, h3⟩
      · refine .inl ⟨?_, ?_⟩
        · unfold valV at h1 ⊢; rw [List.zip_cons_cons, List.find?_cons_of_neg (by simpa using e)]; exact h1
        · unfold dicGet at h2 ⊢; rw [List.zip_cons_cons, List.find?_cons_of_neg (by simpa using e)]; exact h2
      · refine .inr ⟨v', d', ?_, ?_, h3⟩
        · unfold valV at h1 ⊢; rw [List.zip_cons_cons, List.find?_cons_of_neg (by simpa using e)]; exact h1
        · unfold dicGet at h2 ⊢; rw [List.zip_cons_cons, List.find?_cons_of_neg (by simpa using e)]; exact h2
theorem pd_dget2 {o e f : Expr} {apos cpos : Pos} {td ty tx : DE} (hu : X.A.units + 64 < cLine) (ho : PD X o td) (he : PD X e ty) (hf : PD X f tx) (h1 : attributeBase o "get" X.env (eval o X.env) = eval o X.env := by rfl)
    (h2 : (((backTo cpos (starEach [e, f] X.env)).all fun x => !x.1) && ((backToKw cpos (keywordEach [] X.env)).all fun x => x.1.isSome) && decide ([e, f].length + ([] : List Keyword).length + (if ([] : List Keyword).isEmpty = true then 0 else 1) < 30)) = true := by rfl)
    (h3 : (apos.endLine == cpos.line) = true := by rfl) (h4 : backTo cpos (starEach [e, f] X.env) = [(false, eval e X.env), (false, eval f X.env)] := by rfl) :
    PD X (.Call (.Attribute o "get" apos) [e, f] [] cpos) (dGet2 td ty tx) := by
  obtain ⟨u1, p1, s1⟩ := ho.ex
  obtain ⟨u2, p2, s2⟩ := he.ex
  obtain ⟨u3, p3, s3⟩ := hf.ex
  refine ⟨_, pe_dget2 (by omega) p1 p2 p3 ⟨h1, h2, h3, h4⟩, ?_⟩
  intro as σ ρ L H M P Q hE A hh q
  refine s1 as σ ρ L H M _ _ hE A hh fun v d L1 H1 M1 st1 A1 h1 r1 => ?_
  obtain ⟨ks, ds, rfl, h1⟩ := h1
  cases r1 with
  | dic hd hl ra =>
    obtain ⟨ob, hd⟩ := hd
    refine ⟨_, rfl, ?_, ?_⟩
    · exact .inl ⟨_, .inr ⟨ob, A1.low _ _ hd⟩⟩
    refine s2 as σ ρ L1 H1 M1 _ _ (hE.mono st1.k st1.pre) A1 h1 fun y dy L2 H2 M2 st2 A2 h2 r2 => ?_
    have st12 := st1.trans A1 st2
    refine s3 as σ ρ L2 H2 M2 _ _ (hE.mono st12.k st12.pre) A2 h2 fun z dz L3 H3 M3 st3 A3 h3 r3 => ?_
    obtain ⟨k, rfl, p⟩ := h3
    have ek := keyD_rp r2
    have ra3 := ra.mono (st2.k.trans st3.k) (st2.pre.trans st3.pre)
    have hd3 : H3 _ = some (.frz ob (.dK (ks.zip _))) := A3.low _ _ (st3.k _ _ (st2.k _ _ hd))
    have st13 := st12.trans A2 st3
    rcases rp_get k (ks := ks) ra3 with ⟨e1, e2⟩ | ⟨v', d', e1, e2, r⟩
    · rw [e2] at p
      exact ⟨none, .inl ⟨_, k, .inr ⟨ob, hd3⟩, ek, e1.symm⟩, q z dz L3 H3 M3 st13 A3 p r3⟩
    · rw [e2] at p
      exact ⟨some v', .inl ⟨_, k, .inr ⟨ob, hd3⟩, ek, e1.symm⟩, q v' d' L3 H3 M3 st13 A3 p r⟩
end
end Pd
set_option Elab.async false
set_option linter.all false
set_option maxRecDepth 100000
set_option maxHeartbeats 3200000
namespace Pd
open PySem PySem.Spec PyProof.Rows L2 PySem.HandSPX
section
variable {X : Cx} {k n : Nat} {C g : Addr} {fd : FuncData} {ps : List Str} {e o : Expr} {es : List Expr} {t : DE} {tl : DA} {pos apos p pos2 : Pos} {m : Str} {pl : Sem Bool}
@[simp] def dMethD (C : Addr) (m : Str) (n : Nat) (W : DC) (t : DE) (tl : DA) : DE := fun ρ M P => t ρ M fun x M1 => ∃ fs, x = .ins C fs ∧ fs.lookup m = none ∧ tl ρ M1 fun ds M2 => ds.length + 1 = n ∧ W (x :: ds) M2 P
theorem pd_methD {W : DC} (he : PD X o t) (c : Cls X.K C) (hm : Meth X.K C m g) (F : FnOk X.prog X.w X.K X.mg X.base CX0 k g fd ps (spD n W X.K)) (hr : Room k X.A) (hb : Binds X.K fd ps []) (ha : PDA X (e :: es) tl)
    (hst : starEach (e :: es) X.env = (false, eval e X.env) :: starEach es X.env := by rfl) (hpl : (backTo pos (starEach es X.env)).any (·.1) = false := by rfl)
    (ht : eval (.Call (.Attribute o m apos) (e :: es) [] pos) X.env = (do
      let ov ← eval o X.env
      standAt apos.atName
      let (f, first) ← holding [ov] (getMethod ov m pl)
      callWith pos f first (backTo pos (starEach (e :: es) X.env)) (backToKw pos (keywordEach [] X.env))) := by rfl) :
    PD X (.Call (.Attribute o m apos) (e :: es) [] pos) (dMethD C m n W t tl) := by
  obtain ⟨u, p, s⟩ := he.ex
  obtain ⟨ua, pa, sa⟩ := ha.ex
  refine ⟨_, pe_meth p c hm F hr hb .nil (pass0 (X := X)) pa hst hpl ht, ?_⟩
  intro as σ ρ L H M P Q hE A h q
  refine s as σ ρ L H M _ _ hE A h fun v d L1 H1 M1 s1 A1 h1 r1 => ?_
  obtain ⟨fs, rfl, hl, h1⟩ := h1
  have r0 := r1
  cases r1 with
  | ins g1 rf =>
    refine ⟨_, _, _, rfl, A1.low _ _ g1, rf.lookN hl, sa as σ ρ L1 H1 M1 _ _ (hE.mono s1.k s1.pre) A1 h1 fun vs ds L2 H2 M2 s2 A2 h2 r2 => ?_⟩
    rw [List.append_nil]
    have s12 := s1.trans A1 s2
    exact sp_of A2 (.cons (r0.mono s2.k s2.pre) r2) (by rw [List.length_cons]; exact h2.1) h2.2 fun v z L3 H3 M3 s3 A3 h3 r3 => q v z L3 H3 M3 (s12.trans A2 s3) A3 h3 r3
@[simp] def dListGM (C : Addr) (m : Str) (W : DCG) (t : DE) : DE := fun ρ M P => t ρ M fun x M1 => ∃ fs, x = .ins C fs ∧ fs.lookup m = none ∧ W [x] M1 (fun out M2 => P (.lst out) M2) xNo
end
section
variable {X : Cx} {K : PySem.W.Frag}
def rNinI (K : PySem.W.Frag) : R2 := fun x y H Q => ∃ d ds, Dp K H x d ∧ Dp K H y (.list ds) ∧ SeqAt.shaped (.list ds) = true ∧ SeqAt.shaped d = true ∧ d.depth ≤ 60 ∧ Q (.bl (!ds.any fun z => PyData.eqv z d)) H
theorem op_ninI (hu : X.A.units + 64 < cLine) : OpR X (compareOp .NotIn) (rNinI X.K) := by
  intro pins s σ H x y v u Q I r1 r2 h
  obtain ⟨d, ds, h1, h2, h4, h3, hd, q⟩ := h
  obtain ⟨bs, rx⟩ := Dp.reads I d x v h1 r1
  obtain ⟨as, ry⟩ := Dp.reads I _ y u h2 r2
  have hc := SeqAt.canLay_of_shaped h4
  exact SeqAt.notIn_list_reads ry rx (by simpa [PyData.canLay0] using hc) (SeqAt.canLay_of_shaped h3) (by omega) ⟨.bl _, H, I, rfl, q⟩
@[simp] def oNinI : D2 := fun x y M P => ∃ ds, y = .lst ds ∧ okD x = true ∧ okD y = true ∧ (toP x).depth ≤ 60 ∧ P (.bl (!ds.any fun z => eqD z x)) M
theorem sr_ninI : SimR K (rNinI K) oNinI := by
  intro as L H M x y d e P Q A r1 r2 ⟨ds, h1, h2, h3, h4, p⟩ q
  subst h1
  have e1 := Bool.and_eq_true_iff.mp h2
  have e2 := Bool.and_eq_true_iff.mp h3
  have d1 := r1.dp A.low e1.1
  have d2 := r2.dp A.low e2.1
  refine ⟨toP d, toPA ds, d1, d2, e2.2, e1.2, h4, ?_⟩
  have : (toPA ds).any (fun z => PyData.eqv z (toP d)) = ds.any fun z => eqD z d := by rw [toPA_map, List.any_map]; rfl
  rw [this]
  exact q _ _ L H M .refl A p (.bl _)
end
section
variable {X : Cx}
def rAnyLI (K : PySem.W.Frag) : List V → Hp → VK → Prop := fun vs H Q => ∃ (a : Addr) (ns : List Int), vs = [V.ref a] ∧ SqL K H a (ns.map V.int) ∧ Q (.bl (ns.any fun n => n != 0)) H
theorem cr_anyLI (hc : X.calm = true) : CallR X (.builtin "any") (rAnyLI X.K) := by
  intro pins s σ H vs us Q I r h
  obtain ⟨a, ns, rfl, hs, q⟩ := h
  obtain ⟨its, rv, pl, _⟩ := I.list hs
  have hl : s.heap.IsList a its.toArray := pl.isList
  rw [Vals.ref1 r]
  have hlt : a < s.heap.objs.size := by obtain ⟨o, e, _⟩ := hl; exact Heap.lt_size e
  have hlen := rv.length
  rw [List.length_map] at hlen
  refine call_any_walk (wpAny_pyIter_list hl ?_)
  refine ⟨_, _, _, _, _, _, fun i => (ns.getD i 0) != 0, rfl, Walks.list (A := X.A.in1) (I.ok.hd hc) _ a (Nat.ne_of_lt hlt) its.toArray, ⟨⟨_, Heap.get?_push_size _ rfl, rfl, rfl⟩, hl.push _⟩, fun i v s' Q' E' hv hq => ?_, fun h' tk hk => ?_⟩
  · have hv' : its[i]? = some v := by simpa using hv
    obtain ⟨n, hn⟩ : ∃ n, ns[i]? = some n := by
      have h1 : i < its.length := (List.getElem?_eq_some_iff.mp hv').1
      exact ⟨ns[i]'(by omega), List.getElem?_eq_getElem (by omega)⟩
    obtain ⟨u, hu, ru⟩ := rv.get (i := i) (x := .int n) (by rw [List.getElem?_map, hn]; rfl)
    rw [hv'] at hu
    cases hu
    obtain ⟨t, rfl⟩ := ru
    have hg : ns.getD i 0 = n := by rw [List.getD_eq_getElem?_getD, hn]; rfl
    simp only [hg] at hq
    exact PyProof.Rows.truthy_int hq
  · refine ⟨.bl _, H, I.kept fun b o eo => hk b o (fun hmem => ?_) (Heap.get?_push_of_some _ eo), ?_, q⟩
    · rcases List.mem_cons.mp hmem with e1 | hmem
      · exact absurd (e1 ▸ Heap.lt_size eo) (Nat.lt_irrefl _)
      · cases hmem
    · show Value.bool _ = Value.bool _
      rw [← any_rangeI, List.size_toArray, ← hlen]
@[simp] def oAnyLI : DC := fun xs M P => ∃ ns : List Int, xs = [.lst (dI ns)] ∧ P (.bl (ns.any fun n => n != 0)) M
theorem sc_anyLI {K : PySem.W.Frag} : SimC K (rAnyLI K) oAnyLI := by
  intro as L H M xs ds P Q A r ⟨ns, h, p⟩ q
  subst h
  cases r with
  | cons r1 r2 =>
    cases r2
    cases r1 with
    | lst hs ra =>
      have ev := RpA.ints ra
      subst ev
      exact ⟨_, ns, rfl, ex_l A.low hs, q _ _ L H M .refl A p (.bl _)⟩
end
end Pd
set_option Elab.async false
set_option linter.all false
set_option maxRecDepth 100000
set_option maxHeartbeats 4000000
namespace Pd
open PySem PySem.Spec PyProof.Rows L2
/-- a list without doubles whose items stand in another one is not longer -/
theorem nd_le {α : Type} [DecidableEq α] : ∀ (l U : List α), l.Nodup → (∀ x ∈ l, x ∈ U) → l.length ≤ U.length
  | [], _, _, _ => Nat.zero_le _
  | x :: l, U, h, hs => by
    have h1 := List.nodup_cons.mp h
    have hx := hs x List.mem_cons_self
    have := nd_le l (U.erase x) h1.2 fun y hy => by
      have hne : y ≠ x := fun e => by rw [e] at hy; exact h1.1 hy
      exact (List.mem_erase_of_ne hne).mpr (hs y (List.mem_cons_of_mem _ hy))
    have hp := List.length_pos_of_mem hx
    rw [List.length_erase_of_mem hx] at this
    rw [List.length_cons]
    omega
def FewOf (U : List (List Int)) (ks : List (Addr × List Int)) : Prop := U.length + 1 < 64 ∧ ∀ q ∈ ks, q.2 ∈ U
theorem FewOf.room {U : List (List Int)} {ks L : List (Addr × List Int)} {i : Nat} (f : FewOf U ks) (g : Got ks i L) (nd : (L.map (·.2)).Nodup) : L.length + 1 < 64 := by
  have h := nd_le _ U nd fun x hx => by
    obtain ⟨q, hq, rfl⟩ := List.mem_map.mp hx
    exact f.2 q (List.mem_of_mem_take (g.sub q hq))
  rw [List.length_map] at h
  have := f.1
  omega
section
variable {P : Program} {w : World} {A : Around} {E : Value → Shared → Prop}
/-- the set at z, when i items are in it -/
def Half (P : Program) (w : World) (z : Addr) (ks : List (Addr × List Int)) (g0 : Heap) (i : Nat) (h : Heap) : Prop :=
  (∀ b o, g0.get? b = some o → h.get? b = some o) ∧ ∃ L es ep t, SetTR P w h z L es ep t ∧ Got ks i L
theorem Half.same {z : Addr} {ks : List (Addr × List Int)} {g0 h h' : Heap} {i : Nat} (H : Half P w z ks g0 i h) (tup : ∀ q ∈ ks, IsT P w g0 q.2 q.1) (hz : ∀ o, h.get? z = some o → h'.get? z = some o) (k : ∀ b o, g0.get? b = some o → h'.get? b = some o) : Half P w z ks g0 i h' := by
  obtain ⟨_, L, es, ep, t, R, g⟩ := H
  exact ⟨k, L, es, ep, t, R.keep hz fun q hq => isT_keep (tup q (List.mem_of_mem_take (g.sub q hq))) k, g⟩
/-- one more -/
theorem Half.add {z : Addr} {ks : List (Addr × List Int)} {U : List (List Int)} {g0 : Heap} {i : Nat} {s : Shared} {q : Addr × List Int} (H : Half P w z ks g0 i s.heap) (few : FewOf U ks) (tup : ∀ q ∈ ks, IsT P w g0 q.2 q.1) (z0 : g0.get? z = none) (hq : ks[i]? = some q) (hu : A.units < cLine) {Q : Bool → Shared → Prop}
    (next : ∀ b h' tk, Heap.SameBut z s.heap h' → s.toks ≤ tk → Half P w z ks g0 (i + 1) h' → Q b { s with heap := h', toks := tk }) : wpAny (model P w) A (setAdd z (.ref q.1)) Q E s := by
  obtain ⟨k, L, es, ep, t, R, g⟩ := H
  have hx : IsT P w s.heap q.2 q.1 := isT_keep (tup q (List.mem_of_getElem? hq)) k
  unfold setAdd
  refine wpAny_holding (wpAny_bind (wpAny_pyHash_tuple hu hx ?_))
  refine add_at (s := { s with toks := s.toks + (q.2.length + 1) }) R hx hu (few.room g R.nd) fun b h' L' es' ep' t' sb R' old new => ?_
  refine next b h' _ sb (Nat.le_add_right _ _) ⟨fun c o e => (sb.2 c fun y => by rw [y, z0] at e; cases e).trans (k c o e), L', es', ep', t', R', ?_⟩
  by_cases c : q.2 ∈ L.map (·.2)
  · rw [old c]; exact g.same hq c
  · exact g.more hq (new c)
theorem fill_set {I z : Addr} {fp wr : List Addr} {G : Array GenState → Array GenState → Prop} {Pv : Nat → Value → Prop} {St : Nat → Shared → Prop} {R : Result → Shared → Prop} {ks : List (Addr × List Int)} {U : List (List Int)} {g0 : Heap} {s0 : Shared}
    (W : WalksS P w A.in1 I fp wr G ks.length Pv St) (zf : z ∉ fp) (few : FewOf U ks) (val : ∀ i v, Pv i v → ∃ q, ks[i]? = some q ∧ v = .ref q.1) (tup : ∀ q ∈ ks, IsT P w g0 q.2 q.1) (z0 : g0.get? z = none) (w0 : ∀ b ∈ wr, g0.get? b = none) (hu : A.in1.units < cLine)
    (fin : ∀ s', Moved (z :: wr) G s0 s' → Half P w z ks g0 ks.length s'.heap → R (.ok (.ret .none)) s') :
    ∀ (m i : Nat) (s : Shared), i + m = ks.length → Moved (z :: wr) G s0 s → St i s → Half P w z ks g0 i s.heap → codeAny (model P w) A (.builtin "set.update.loop" ⟨[.ref z, .ref I], []⟩) R s := by
  have zw : z ∉ wr := fun h => zf (W.sub _ h)
  have wide : ∀ b ∈ wr, b ∈ z :: wr := fun b hb => List.mem_cons_of_mem _ hb
  have stay : ∀ {i : Nat} {s s' : Shared}, Moved wr G s s' → Half P w z ks g0 i s.heap → Half P w z ks g0 i s'.heap := fun mv H =>
    H.same tup (fun o e => mv.heap z o zw e) fun b o e => mv.heap b o (fun hb => by rw [w0 b hb] at e; cases e) (H.1 b o e)
  intro m
  induction m with
  | zero =>
    intro i s hi m0 st H
    obtain rfl : i = ks.length := hi
    refine codeAny_builtin F.entry_set_update_loop (Around.under_plainId F.plain_set_update_loop _ ▸ ?_)
    show wpAny _ A.in1 (pyNext (.ref I) >>= _) _ _ s
    refine wpAny_bind (W.done s _ _ st fun s' mv => ?_)
    show wpAny _ A.in1 (ret Value.none) _ _ s'
    exact wpAny_pure (fin s' (m0.trans W.gtrans (mv.mono wide)) (stay mv H))
  | succ m ih =>
    intro i s hi m0 st H
    refine codeAny_builtin F.entry_set_update_loop (Around.under_plainId F.plain_set_update_loop _ ▸ ?_)
    show wpAny _ A.in1 (pyNext (.ref I) >>= _) _ _ s
    refine wpAny_bind (W.item i s _ _ (by omega) st fun v s' pv st' mv => ?_)
    obtain ⟨q, hq, rfl⟩ := val i v pv
    show wpAny _ A.in1 (holding [Value.ref q.1] (setAdd z (.ref q.1)) >>= _) _ _ s'
    refine wpAny_bind (wpAny_holding ((stay mv H).add few tup z0 hq hu fun b h' tk sb ht H' => ?_))
    have st2 : St (i + 1) { s' with heap := h', toks := tk } := W.frame _ s' _ _ st' ht fun c hc o e => (sb.2 c fun y => zf (y ▸ hc)).trans e
    refine wpAny_pure ⟨plainId_quiet F.plain_set_update_loop _, ih (i + 1) _ (by omega) ?_ st2 H'⟩
    refine m0.trans W.gtrans ((mv.mono wide).then_heap ht fun c o hc e => ?_)
    exact (sb.2 c fun y => hc (y ▸ List.mem_cons_self)).trans e
end
end Pd
namespace Pd
open PySem PySem.Spec PyProof.Rows L2
section
variable {P : Program} {w : World} {A : Around} {E : Value → Shared → Prop} {s : Shared}
abbrev bareSet (w : World) : Obj := { cls := .type "set", dict := none, data := .set #[] 0 (.fresh 0 0 (!w.params.followText "set-order")) }
theorem half_new {h : Heap} {z : Addr} {ks : List (Addr × List Int)} {g0 : Heap} (o : h.get? z = some (bareSet w)) (k : ∀ b o, g0.get? b = some o → h.get? b = some o) : Half P w z ks g0 0 h :=
  ⟨k, [], #[], 0, _, setTR_fresh o, Got.zero ks⟩
theorem none_behind {h : Heap} {b : Addr} (hb : h.objs.size ≤ b) : h.get? b = none := by
  cases q : h.get? b with
  | none => rfl
  | some o => exact absurd (Nat.lt_of_lt_of_le (Heap.lt_size q) hb) (Nat.lt_irrefl _)
set_option maxHeartbeats 8000000 in
/-- set(xs), xs a list of many tuples, few unlike -/
theorem set_of_list {l : Addr} {items : Array Value} {ks : List (Addr × List Int)} {U : List (List Int)} {Q : Value → Shared → Prop} (hh : A.handled = none) (hl : s.heap.IsList l items) (hit : items.toList = ks.map fun q => Value.ref q.1) (tup : ∀ q ∈ ks, IsT P w s.heap q.2 q.1) (few : FewOf U ks) (hu : A.units + 3 < cLine)
    (hQ : ∀ h' tk, Half P w s.heap.objs.size ks s.heap ks.length h' → Q (.ref s.heap.objs.size) { s with heap := h', toks := tk }) : wpAny (model P w) A (call (.type "set") [.ref l]) Q E s := by
  have hn : items.size = ks.length := by rw [← Array.length_toList, hit, List.length_map]
  obtain ⟨mc, mt, mro⟩ := F.called_set.mro
  have made := F.called_set.made
  have sub := F.called_set.sub
  refine wpAny_call (codeAny_of_tree ?_)
  show wpAny _ _ (callAny (.type "set") _) _ _ _
  refine wpAny_pure ⟨Code.quiet_builtin _ (by decide +kernel), codeAny_builtin F.entry_type_call ?_⟩
  rw [Around.under_plain (weight_type_call_type "set" [.ref l] []) rfl]
  have nt := F.called_set.notType
  have cc := F.called_set.canCreate
  have tc := F.typeCall_set_1 (.ref l)
  repeat (any_goals (first | assumption | wp_step))
  refine codeAny_mono (code_set_led1 (.ref l) (E := E) (Q₁ := fun v s' => v = .ref s.heap.objs.size ∧ s' = { s with heap := s.heap.push (bareSet w) }) ⟨rfl, rfl⟩) fun r s1 hr => ?_
  cases r with
  | error x => exact hr
  | ok fl =>
    cases fl with
    | ret v =>
      obtain ⟨rfl, rfl⟩ := hr
      have hz : (s.heap.push (bareSet w)).get? s.heap.objs.size = some (bareSet w) := Heap.get?_push_size _ rfl
      have ht : Shared.TypeIs { s with heap := s.heap.push (bareSet w) } (.ref s.heap.objs.size) "set" := ⟨_, hz, rfl⟩
      have il := F.called_set.init.lookup
      have ib := F.called_set.init.bind (.ref s.heap.objs.size)
      repeat (any_goals (first | assumption | wp_step))
      refine codeAny_mono (codeAny_call_builtin (R := wants (fun r s' => r = .none ∧ ∃ h' tk, s' = { s with heap := h', toks := tk } ∧ Half P w s.heap.objs.size ks s.heap ks.length h') E) F.called_set.init.plain F.entry_set_init (check_set_init_1 ht ?_)) fun r2 s2 hr2 => ?_
      · obtain ⟨ol, hol, hcl, nl, hdl⟩ := hl
        obtain ⟨oc, od, oa, os⟩ := ol
        simp only at hcl hdl
        subst hcl; subst hdl
        have hlt : l < s.heap.objs.size := Heap.lt_size hol
        have lst : (s.heap.push (bareSet w)).get? l = some { cls := .type "list", dict := od, data := .seq items nl, slots := os } := Heap.get?_push_of_some _ hol
        have ls := F.sub_list_set
        have lf := F.sub_list_frozenset
        have ld : (Value.type "list" == Value.type "dict") = false := by decide
        have isl : (s.heap.push (bareSet w)).IsList l items := ⟨_, lst, rfl, nl, rfl⟩
        unfold Builtin.«set.__init__» noKeywords Builtin.Frozenset.updateFrom
        generalize hPI : pyIter = PI
        wp_walk
        subst hPI
        refine wpAny_pyIter_list isl (wpAny_bind (wpAny_runValue ?_))
        have sz : (s.heap.push (bareSet w)).objs.size = s.heap.objs.size + 1 := Heap.size_push ..
        have hd3 : A.in1.in1.in1.handled = none := by simp [hh]
        have keep : ∀ b o, s.heap.get? b = some o → ((s.heap.push (bareSet w)).push { cls := .type "list_iterator", data := .fields #[.ref l, .int 0 0] }).get? b = some o := fun b o e => Heap.get?_push_of_some _ (Heap.get?_push_of_some _ e)
        have W := (Walks.list (prog := P) (w := w) hd3 (s.heap.push (bareSet w)).objs.size l (by rw [sz]; exact Nat.ne_of_lt (Nat.lt_succ_of_lt hlt)) items).toS
        rw [hn] at W
        refine fill_set (s0 := { s with heap := (s.heap.push (bareSet w)).push { cls := .type "list_iterator", data := .fields #[.ref l, .int 0 0] } }) W (by rw [sz]; simp only [List.mem_cons, List.not_mem_nil, or_false, not_or]; exact ⟨Nat.ne_of_lt (Nat.lt_succ_self _), Nat.ne_of_gt hlt⟩) few (fun i v e => ?_) tup (none_behind (Nat.le_refl _)) (fun b hb => none_behind (by rw [List.mem_singleton.mp hb, sz]; exact Nat.le_succ _)) hu (fun s' mv H => ?_) ks.length 0 _ (Nat.zero_add _) (Moved.refl W.grefl) ⟨⟨_, Heap.get?_push_size _ rfl, rfl, rfl⟩, isl.push _⟩ (half_new (Heap.get?_push_of_some _ hz) keep)
        · have q : items.toList[i]? = some v := by rw [Array.getElem?_toList]; exact e
          rw [hit, List.getElem?_map] at q
          obtain ⟨y, hy, e2⟩ := Option.map_eq_some_iff.mp q
          exact ⟨y, hy, e2.symm⟩
        · obtain ⟨h', g', d', tk', os'⟩ := s'
          obtain rfl : g' = s.gens := mv.gens
          obtain rfl : d' = s.drawn := mv.drawn
          obtain rfl : os' = s.os := mv.os
          show wpAny _ _ _ _ _ _
          refine wpAny_pure ?_
          show wpAny _ _ (ret Value.none) _ _ _
          exact wpAny_pure ⟨rfl, h', tk', rfl, H⟩
      · cases r2 with
        | error x => exact hr2
        | ok f2 =>
          cases f2 with
          | ret r =>
            obtain ⟨rfl, h', tk, rfl, H⟩ := hr2
            repeat (any_goals (first | assumption | wp_step))
            exact hQ _ _ H
          | _ => exact hr2.elim
    | _ => exact hr.elim
end
end Pd
set_option Elab.async false
set_option linter.all false
set_option maxRecDepth 100000
set_option maxHeartbeats 4000000
namespace Pd
open PySem PySem.Spec PyProof.Rows L2
theorem code_le_lex {B : Int} : ∀ {x y : List Int}, x.length = y.length → TS.Bd B x → TS.Bd B y → TS.code B x ≤ TS.code B y → ¬ y < x
  | [], [], _, _, _, _ => List.lt_irrefl _
  | a :: x, b :: y, hl, hx, hy, h => fun z => by
    have hl' : x.length = y.length := by simpa using hl
    rcases List.cons_lt_cons_iff.mp z with z1 | ⟨z0, z2⟩
    · exact absurd (TS.code_lt hl'.symm hy.tail hx.tail z1) (by omega)
    · subst z0
      refine code_le_lex hl' hx.tail hy.tail (Int.not_lt.mp fun c => ?_) z2
      have := (TS.code_same (d := b) hl'.symm).mpr c
      omega
section
variable {X : Cx} {e : Expr} {t : DE} {pos pos2 p p2 : Pos}
def rSetM (K : PySem.W.Frag) (P : Program) (w : World) : List V → Hp → VK → Prop := fun xs H Q => ∃ (l : Addr) (ks : List (Addr × List Int)) (U : List (List Int)), xs = [.ref l] ∧ SqL K H l (ks.map fun q => V.ref q.1) ∧ (∀ q ∈ ks, SqT K H q.1 (q.2.map V.int)) ∧ FewOf U ks ∧
  ∀ a L, H a = none → (∀ q ∈ L, q ∈ ks) → (∀ q ∈ ks, q.2 ∈ L.map (·.2)) → Q (.ref a) (upd H a (SetTO P w a L))
theorem call_setM (hc : X.calm = true) (hu : X.A.units + 64 < cLine) : CallR X (.type "set") (rSetM X.K X.prog X.w) := by
  intro pins s σ H xs us Q I r h
  obtain ⟨l, ks, U, rfl, hl, hk, hf, q⟩ := h
  obtain ⟨u, rfl, rx⟩ := vals1 r
  cases rx
  obtain ⟨its, rv, pl, _⟩ := I.list hl
  refine set_of_list (P := X.prog) (w := X.w) (I.ok.hd hc) pl.isList (by rw [List.toList_toArray]; exact refs_of_vals rv) (fun x hx => I.isT (hk x hx)) hf (by omega) fun h' tk H' => ?_
  obtain ⟨k, L, es, ep, t, R, g⟩ := H'
  refine ⟨.ref s.heap.objs.size, _, I.laid (t' := tk) k (Nat.le_refl _) (setTO_new R.t0), rfl, q _ L (I.hok.fresh (Nat.le_refl _)) (fun x hx => List.mem_of_mem_take (g.sub x hx)) fun x hx => g.all x (by rw [List.take_length]; exact hx)⟩
/-- tuples of ints, with their addresses -/
theorem RpA.tups {K : PySem.W.Frag} {as : List Addr} {L : Hp} : ∀ {vs : List V} {rows : List (List Int)}, RpA K as L vs (rows.map tI) → ∃ ks : List (Addr × List Int), vs = ks.map (fun q => V.ref q.1) ∧ ks.map (·.2) = rows ∧ ∀ q ∈ ks, SqT K L q.1 (q.2.map V.int)
  | _, [], .nil => ⟨[], rfl, rfl, fun _ h => nomatch h⟩
  | _, row :: rows, .cons (.tup (a := a) hs r) ra => by
    obtain ⟨ks, rfl, h2, h3⟩ := RpA.tups ra
    have e := RpA.ints r
    subst e
    exact ⟨(a, row) :: ks, rfl, by rw [List.map_cons, h2], fun q hq => by
      rcases List.mem_cons.mp hq with rfl | hq
      · exact hs
      · exact h3 q hq⟩
theorem rp_tups {K : PySem.W.Frag} {as : List Addr} {L : Hp} : ∀ {ks : List (Addr × List Int)}, (∀ q ∈ ks, SqT K L q.1 (q.2.map V.int)) → RpA K as L (ks.map fun q => V.ref q.1) ((ks.map (·.2)).map tI)
  | [], _ => .nil
  | q :: ks, h => .cons (.tup (h q List.mem_cons_self) (rp_ints _)) (rp_tups fun x hx => h x (List.mem_cons_of_mem _ hx))
/-- sorted(set(e)), e a list of tuples of n ints from 0 to B - 1 -/
@[simp] def dSortSetT (t : DE) : DE := fun ρ M P => t ρ M fun d M1 => ∃ (rows U : List (List Int)) (n : Nat) (B : Int), d = .lst (rows.map tI) ∧ 1 ≤ n ∧ (∀ r ∈ rows, r.length = n ∧ TS.Bd B r ∧ r ∈ U) ∧ U.length + 1 < 64 ∧ ∀ ms : List (List Int), ms.Pairwise (· < ·) → (∀ k, k ∈ ms ↔ k ∈ rows) → P (.lst (ms.map tI)) M1
theorem pd_sortSetT (hc : X.calm = true) (hu : X.A.units + 64 < cLine) (hg : Gl X "sorted") (hm : X.mg "sorted" = none) (hg2 : Gl X "set") (hm2 : X.mg "set" = none) (h : PD X e t) (hst : starEach [e] X.env = (false, eval e X.env) :: starEach [] X.env := by rfl) (hst2 : starEach [.Call (.Name "set" p2) [e] [] pos2] X.env = (false, eval (.Call (.Name "set" p2) [e] [] pos2) X.env) :: starEach [] X.env := by rfl) :
    PD X (.Call (.Name "sorted" p) [.Call (.Name "set" p2) [e] [] pos2] [] pos) (dSortSetT t) := by
  obtain ⟨u, pe, s⟩ := h.ex
  refine ⟨_, pe_callB (cr_sortedT hc) hg hm (by decide +kernel) (pa_cons (pe_callTy (call_setM hc hu) hg2 hm2 (by decide +kernel) (pa_cons pe pa_nil hst) (by decide) (by decide) hst (by rfl)) pa_nil hst2) (by decide) (by decide) hst2 (by rfl), ?_⟩
  intro as σ ρ L H M P Q hE A hh q
  refine s as σ ρ L H M _ _ hE A hh fun v d L1 H1 M1 s1 A1 h1 r1 => ?_
  obtain ⟨rows, U, n, B, rfl, hn, hr, h64, p1⟩ := h1
  cases r1 with
  | lst hs ra =>
    obtain ⟨ks, rfl, rfl, hk⟩ := RpA.tups ra
    have hkr : ∀ q ∈ ks, q.2.length = n ∧ TS.Bd B q.2 ∧ q.2 ∈ U := fun q hq => hr _ (List.mem_map.mpr ⟨q, hq, rfl⟩)
    refine ⟨_, ks, U, rfl, ex_l A1.low hs, fun x hx => ex_t A1.low (hk x hx), ⟨h64, fun x hx => (hkr x hx).2.2⟩, fun a S ha s1' s2' => ?_⟩
    have a2 := Step.know (o := SetTO X.prog X.w a S) A1 ha
    have A2 := A1.know (o := SetTO X.prog X.w a S) ha (fun ps z => by cases z)
    refine ⟨a, S, n, B, rfl, upd_same, fun x hx => ?_, hn, fun x hx => ⟨(hkr x (s1' x hx)).1, (hkr x (s1' x hx)).2.1⟩, fun S' b pm nd hl pw hb => ?_⟩
    · exact ex_t A2.low (ex_t a2.k (hk x (s1' x hx)))
    have lb := lowfree A2 hb
    have hS : ∀ x ∈ S', x ∈ ks := fun x hx => s1' x (pm.mem_iff.mp hx)
    refine q _ _ _ _ M1 ((s1.trans A1 a2).trans A2 (Step.know A2 hb)) (A2.know hb) (p1 (S'.map (·.2)) ?_ fun k => ?_) (.lst (.inl (.inl upd_same)) (rp_tups fun x hx => ex_t (Ex.new lb) (ex_t a2.k (hk x (hS x hx)))))
    · have nd' : S'.Pairwise fun x y => x.2 ≠ y.2 := List.pairwise_map.mp nd
      rw [List.pairwise_map]
      refine List.Pairwise.imp_of_mem (fun {x y} hx hy hc => ?_) (pw.and nd')
      have k1 := hkr x (hS x hx)
      have k2 := hkr y (hS y hy)
      have := code_le_lex (by rw [k1.1, k2.1]) k1.2.1 k2.2.1 hc.1
      rcases Classical.em (x.2 < y.2) with c | c
      · exact c
      · exact absurd (List.le_antisymm this c) hc.2
    · rw [(pm.map (·.2)).mem_iff]
      constructor
      · intro h
        obtain ⟨x, hx, rfl⟩ := List.mem_map.mp h
        exact List.mem_map.mpr ⟨x, s1' x hx, rfl⟩
      · intro h
        obtain ⟨x, hx, rfl⟩ := List.mem_map.mp h
        exact s2' x hx
end
end Pd
set_option Elab.async false
set_option linter.all false
set_option maxRecDepth 100000
set_option maxHeartbeats 4000000
namespace Pd
open PySem PySem.Spec PyProof.Rows L2
section
variable {X : Cx} {e o : Expr} {t td te : DE}
@[simp] def dLIdxB (td te : DE) : DE := fun ρ M P => td ρ M fun d M1 => ∃ bs : List Bool, d = .lst (bs.map D.bl) ∧ te ρ M1 fun y M2 => y = .bl true ∧ true ∈ bs ∧ P (.int (bs.idxOf true)) M2
end
theorem any_row (z : List Int) : ∀ rows : List (List Int), ((rows.map tI).any fun r => eqD r (tI z)) = rows.contains z
  | [] => rfl
  | r :: rows => by
    have ih := any_row z rows
    rw [List.map_cons, List.any_cons, ih, List.contains_cons, show eqD (tI r) (tI z) = decide (r = z) from eqD_tup r z]
    congr 1
    rw [Bool.eq_iff_iff]
    simp
    exact ⟨fun h => h.symm, fun h => h.symm⟩
end Pd
set_option Elab.async false
set_option linter.all false
set_option maxRecDepth 100000
set_option maxHeartbeats 3200000
namespace Pd
open PySem PySem.Spec PyProof.Rows L2
/-- x is an instance, known or being made -/
def InsOf (M : Ms) (x : D) (C : Addr) (fs : List (Str × D)) : Prop := x = .ins C fs ∨ ∃ j, x = .mu j ∧ M[j]? = some (.ins C fs)
theorem ins_of {K : PySem.W.Frag} {as : List Addr} {M : Ms} {L H : Hp} {v : V} {d : D} {C : Addr} {gs : List (Str × D)} (A : At K as M L H) (r : Rp K as L v d) (h : InsOf M d C gs) :
    ∃ a dx fs, v = .ref a ∧ H a = some (.ins C dx fs) ∧ RpF K as L fs gs := by
  rcases h with rfl | ⟨j, rfl, hj⟩
  · cases r with
    | ins hs rf => exact ⟨_, _, _, rfl, A.low _ _ hs, rf⟩
  · cases r with
    | mu ha =>
      obtain ⟨dx, fv, g1, g2⟩ := A.ins ha hj
      exact ⟨_, _, _, rfl, g1, g2⟩
@[simp] def dFldA (K : PySem.W.Frag) (t : DE) (f : Str) : DE := fun ρ M P => t ρ M fun x M1 => ∃ C fs v, InsOf M1 x C fs ∧ Cls K C ∧ NoAttr K C f ∧ fs.lookup f = some v ∧ P v M1
theorem pd_fldA {X : Cx} {K : PySem.W.Frag} {e : Expr} {t : DE} {pos : Pos} {f : Str} (hK : X.K = K) (he : PD X e t) (hb : attributeBase e f X.env (eval e X.env) = eval e X.env := by rfl) : PD X (.Attribute e f pos) (dFldA K t f) := by
  subst hK
  obtain ⟨u, p, s⟩ := he.ex
  refine ⟨_, pe_fld p hb, ?_⟩
  intro as σ ρ L H M P Q hE A h q
  refine s as σ ρ L H M _ _ hE A h fun v d L1 H1 M1 s1 A1 h1 r1 => ?_
  obtain ⟨C, fs, w, hi, c, n, hl, p⟩ := h1
  obtain ⟨a, dx, fv, rfl, g1, g2⟩ := ins_of A1 r1 hi
  obtain ⟨z, h2, h3⟩ := g2.look hl
  exact ⟨_, C, _, _, z, rfl, g1, c, n, h2, q _ _ L1 H1 M1 s1 A1 p h3⟩
section
variable {X : Cx} {k n : Nat} {C g : Addr} {fd : FuncData} {ps : List Str} {e o : Expr} {es : List Expr} {t : DE} {tl : DA} {pos apos p pos2 : Pos} {m : Str} {pl : Sem Bool}
/-- o.m(), its one default None -/
@[simp] def dMethA0 (C : Addr) (m : Str) (W : DC) (t : DE) : DE := fun ρ M P => t ρ M fun x M1 => ∃ fs, InsOf M1 x C fs ∧ fs.lookup m = none ∧ W [x, .non] M1 P
theorem pd_methA0 {W : DC} {dv : List Value} (he : PD X o t) (c : Cls X.K C) (hm : Meth X.K C m g) (F : FnOk X.prog X.w X.K X.mg X.base CX0 k g fd ps (spD 2 W X.K)) (hr : Room k X.A) (hb : Binds X.K fd ps dv) (hd : Vals [V.non] dv)
    (ht : eval (.Call (.Attribute o m apos) [] [] pos) X.env = (do
      let ov ← eval o X.env
      standAt apos.atName
      let (f, first) ← holding [ov] (getMethod ov m pl)
      callWith pos f first (backTo pos (starEach [] X.env)) (backToKw pos (keywordEach [] X.env))) := by rfl) :
    PD X (.Call (.Attribute o m apos) [] [] pos) (dMethA0 C m W t) := by
  obtain ⟨u, p, s⟩ := he.ex
  refine ⟨_, pe_meth0 (E := E0) p c hm F hr hb hd (pass0 (X := X)) ht, ?_⟩
  intro as σ ρ L H M P Q hE A h q
  refine s as σ ρ L H M _ _ hE A h fun v d L1 H1 M1 s1 A1 h1 r1 => ?_
  obtain ⟨fs, hi, hl, h1⟩ := h1
  have r0 := r1
  obtain ⟨a, dx, fv, rfl, g1, g2⟩ := ins_of A1 r1 hi
  refine ⟨_, _, _, rfl, g1, g2.lookN hl, ?_⟩
  exact sp_of (E := E0) A1 (.cons r0 (.cons .non .nil)) rfl h1 fun v z L3 H3 M3 s3 A3 h3 r3 => q v z L3 H3 M3 (s1.trans A1 s3) A3 h3 r3
/-- o.m(e, ..) -/
@[simp] def dMethA (C : Addr) (m : Str) (n : Nat) (W : DC) (t : DE) (tl : DA) : DE := fun ρ M P => t ρ M fun x M1 => ∃ fs, InsOf M1 x C fs ∧ fs.lookup m = none ∧ tl ρ M1 fun ds M2 => ds.length + 1 = n ∧ W (x :: ds) M2 P
end
def kI (ns : List Int) : List Key := ns.map Sum.inl
theorem kI_V (ns : List Int) : (kI ns).map kV = ns.map V.int := by
  unfold kI
  rw [List.map_map]
  rfl
theorem get_tuple {X : Cx} {pins : List (Addr × Obj)} {σ : L2.St} {H : Hp} {s : Shared} {a b : Addr} {A : Around} {E : Value → Shared → Prop} {kvs : List (List Key × V)} {ns : List Int} {v : V} {Q : Value → Shared → Prop} (hu : A.units + 1 < cLine) (I : Inv X pins σ H s) (e : Rd H a (.dT kvs)) (eb : SqT X.K H b (ns.map V.int))
    (l : valV kvs (kI ns) = some v) (h : ∀ w' s', Inv X pins σ H s' → RelV v w' → Q w' s') : wpAny (model X.prog X.w) A (getItem (.ref a) (.ref b)) Q E s := by
  obtain ⟨_, _, xs, rel, dd⟩ := dt_rd I.hok e
  obtain ⟨its, rv, ⟨ob, ho, hc, m, hd⟩, _⟩ := I.tuple eb
  have hk : (tupleKind (mixKind X.prog X.w)).is s.heap (kI ns) b := ⟨ob, its.toArray, m, ho, hc, hd, by rw [← kI_V] at rv; simpa using items_are rv⟩
  obtain ⟨w', hw, rw'⟩ := RelO.some_of (v := v) (o := (atKey xs (kI ns)).map (·.2)) (by rw [← l]; exact rel.val _)
  obtain ⟨p, hp, rfl⟩ := Option.map_eq_some_iff.mp hw
  exact wpAny_getItem_heap (tupleKind_room_in1 hu) hk dd hp (h _ _ (I.tok _) rw')
def tGetT (K : PySem.W.Frag) (td ty : TE) : TE := fun σ H Q => td σ H fun x H1 => ty σ H1 fun y H2 => ∃ a b kvs ns v, x = .ref a ∧ y = .ref b ∧ Rd H2 a (.dT kvs) ∧ SqT K H2 b (ns.map V.int) ∧ valV kvs (kI ns) = some v ∧ Q v H2
theorem pe_getT {X : Cx} {o i : Expr} {pos : Pos} {td ty : TE} (hu : X.A.units + 1 < cLine) (ho : PE X o td) (hi : PE X i ty) (hs : NoSl i) : PE X (.Subscript o i pos) (tGetT X.K td ty) := by
  refine ⟨fun pins s σ H Q I h => ?_⟩
  refine subD_of PySem.F.slot_dict_getitem.lookup hs (thn (ho.run pins s σ H _ I h) fun u s1 z1 => ?_)
  obtain ⟨x, H1, I1, rx, q1⟩ := z1
  refine thn (hi.run pins s1 σ H1 _ I1 q1) fun iv s2 z2 => ?_
  obtain ⟨y, H2, I2, ry, a, b, kvs, ns, v, rfl, rfl, e, eb, l, q2⟩ := z2
  obtain rfl : u = Value.ref a := rx
  obtain rfl : iv = Value.ref b := ry
  obtain ⟨_, _, xs, _, dd⟩ := dt_rd I2.hok e
  exact ⟨dd.typeIs, get_tuple hu I2 e eb l fun w' s3 I3 rw' => ⟨v, H2, I3, rw', q2⟩⟩
/-- what the dict holds at a tuple of ints -/
def ditGet (ks : List (List Key)) (ds : List D) (ns : List Int) : Option D := ((ks.zip ds).find? fun kv => decide (kv.1 = kI ns)).map (·.2)
theorem rp_getT {K : PySem.W.Frag} {as : List Addr} {L : Hp} {ns : List Int} {d : D} : ∀ {ks : List (List Key)} {vs : List V} {ds : List D}, RpA K as L vs ds → ditGet ks ds ns = some d → ∃ v, valV (ks.zip vs) (kI ns) = some v ∧ Rp K as L v d
  | [], _, _, _, h => nomatch h
  | _ :: _, _, _, .nil, h => nomatch h
  | k :: ks, _, _, .cons (v := v) (d := d0) r t, h => by
    unfold ditGet at h
    unfold valV
    rw [List.zip_cons_cons] at h ⊢
    by_cases e : k = kI ns
    · rw [List.find?_cons_of_pos (by simpa using e)] at h ⊢
      cases h
      exact ⟨v, rfl, r⟩
    · rw [List.find?_cons_of_neg (by simpa using e)] at h ⊢
      exact rp_getT (ks := ks) t h
@[simp] def dGetT (td ty : DE) : DE := fun ρ M P => td ρ M fun x M1 => ∃ ks ds, x = .dit ks ds ∧ ty ρ M1 fun y M2 => ∃ ns d, fgD y = .tup (dI ns) ∧ ditGet ks ds ns = some d ∧ P d M2
theorem SqT_of {K : PySem.W.Frag} {as : List Addr} {L : Hp} {v : V} {d : D} {ns : List Int} (r : Rp K as L v d) (h : fgD d = .tup (dI ns)) : ∃ b, v = .ref b ∧ SqT K L b (ns.map V.int) := by
  cases d with
  | tup ds =>
    obtain rfl : ds = dI ns := by injection h
    cases r with
    | tup hs ra => rw [← RpA.ints ra]; exact ⟨_, rfl, hs⟩
  | tfz ms =>
    have : ms = ns := by
      have h1 : D.tup (dI ms) = .tup (dI ns) := h
      injection h1 with h2
      have h3 := congrArg (List.map fun x => match x with | D.int i => i | _ => 0) h2
      unfold dI at h3
      rw [List.map_map, List.map_map] at h3
      simpa [Function.comp_def] using h3
    subst this
    cases r with
    | tfz hx => obtain ⟨ob, hx, _, _⟩ := hx; exact ⟨_, rfl, .inl (.inr ⟨ob, hx⟩)⟩
  | _ => cases h
theorem pd_getT {X : Cx} {o i : Expr} {pos : Pos} {td ty : DE} (hu : X.A.units + 1 < cLine) (ho : PD X o td) (hi : PD X i ty) (hs : NoSl i := by intro _ _; rfl) : PD X (.Subscript o i pos) (dGetT td ty) := by
  obtain ⟨u1, p1, s1⟩ := ho.ex
  obtain ⟨u2, p2, s2⟩ := hi.ex
  refine ⟨_, pe_getT hu p1 p2 hs, ?_⟩
  intro as σ ρ L H M P Q hE A h q
  refine s1 as σ ρ L H M _ _ hE A h fun v d L1 H1 M1 st1 A1 h1 r1 => ?_
  obtain ⟨ks, ds, rfl, h1⟩ := h1
  cases r1 with
  | dit hd hl ra =>
    refine s2 as σ ρ L1 H1 M1 _ _ (hE.mono st1.k st1.pre) A1 h1 fun y dy L2 H2 M2 st2 A2 h2 r2 => ?_
    obtain ⟨ns, d, hy, hg, p⟩ := h2
    obtain ⟨b, rfl, hb⟩ := SqT_of r2 hy
    obtain ⟨w, hw, rw'⟩ := rp_getT (ra.mono st2.k st2.pre) hg
    exact ⟨_, b, _, ns, w, rfl, rfl, .inr (let ⟨o, q⟩ := hd; ⟨o, A2.low _ _ (st2.k _ _ q)⟩), ex_t A2.low hb, hw, q w d L2 H2 M2 (st1.trans A1 st2) A2 p rw'⟩
end Pd
set_option Elab.async false
set_option linter.all false
set_option maxRecDepth 100000
set_option maxHeartbeats 3200000
namespace Pd
open PySem PySem.Spec PyProof.Rows L2
section
variable {X : Cx}
/-- a tuple of ints becomes a key of the dict at D -/
theorem set_tuple {pins : List (Addr × Obj)} {σ : L2.St} {H : Hp} {s : Shared} {E : Value → Shared → Prop} {D b : Addr} {kvs : List (List Key × V)} {ns : List Int} {v : V} {r : Value} {Q : Unit → Shared → Prop} (hu : X.A.units < cLine) (I : Inv X pins σ H s)
    (hD : H D = some (.dT kvs)) (hb : H b = some (.tup (ns.map V.int))) (room : kvs.length < sizeLine) (rv : RelV v r) (next : ∀ s', Inv X pins σ (upd H D (.dT (putK kvs (kI ns) v))) s' → Q () s') :
    wpAny (model X.prog X.w) X.A (dictSet D (.ref b) r) Q E s := by
  rw [← kI_V] at hb
  obtain ⟨z, nsys, xs, rel, dd⟩ := dt_of I.hok hD
  have few : xs.length ≤ sizeLine := (Paired.length rel) ▸ z
  have more : (putK kvs (kI ns) v).length ≤ sizeLine := Nat.le_trans (length_putK kvs (kI ns) v) room
  refine wpAny_dictSet_heap (hsz := few) hu (key_of I.hok hb) dd fun h2 now sb => next _ ?_
  obtain ⟨ob, es, ep, h0, c1, c2, c3, _, c5⟩ := now
  refine d_write I (by rw [hD]; trivial) sb ⟨ob, h0⟩ ⟨more, nsys, _, ?_, ob, es, ep, h0, c1, c2, c3, c5⟩
  exact (rel.put (kI ns) hb rv).keeps fun c ys ec => by rw [upd_ne (ne_of ec hD (fun z => nomatch z))]; exact ec
/-- D is the new dict -/
def tDcT (wi : TI) (g : TG) (tk tv : TE) (vs : List Nat) : TE := fun σ H Q => wi σ H fun J H1 => ∀ D, H1 D = none → ∃ W : Nat → Nat → Hp → Prop, (∃ m, W 0 m (upd H1 D (.dT []))) ∧
  ∀ i m H, W i m H → (J.stop i H ∧ Q (.ref D) H) ∨ (J.go i H ∧ ∃ Nx : Hp → Prop, (∀ H', Nx H' → ∃ m', m' < m ∧ W (i + 1) m' H') ∧
    ∀ x H', J.yld i H x H' → g x (wipe σ vs) H' fun σ2 H2 => wipe σ2 vs = wipe σ vs ∧ tk σ2 H2 fun y H4 => tv σ2 H4 fun z H5 =>
      ∃ b kvs ns, y = .ref b ∧ H5 b = some (.tup (ns.map V.int)) ∧ H5 D = some (.dT kvs) ∧ kvs.length < sizeLine ∧ Nx (upd H5 D (.dT (putK kvs (kI ns) z))))
theorem pe_dcT {kx vx tg iter : Expr} {scope : Scope} {own : List (Str × Nat)} {pos : Pos} {wi : TI} {g : TG} {tk tv : TE} (calm : X.calm = true) (hu : X.A.units < cLine) (nd : X.N.Nodup) (hi : PI X tg iter wi) (ok : BlkOk X.N X.env.scope scope own)
    (gP : ∀ s H C cl fp, PG (X.blk s H scope (compEnvC scope cl C X.env) fp) tg g)
    (kP : ∀ s H C cl fp, PE (X.blk s H scope (compEnvC scope cl C X.env) fp) kx tk)
    (vP : ∀ s H C cl fp, PE (X.blk s H scope (compEnvC scope cl C X.env) fp) vx tv) (fold : ∀ x, foldedSetIterable iter X.env x = pure x) :
    PE X (.DictComp kx vx [⟨tg, iter, [], 0⟩] scope pos) (tDcT wi g tk tv (own.map (·.2))) := by
  refine ⟨fun pins s0 σ H0 Q I0 start => ?_⟩
  rw [arm_eval_DictComp]
  have free : ∀ y ∈ scope.names, y.2 = .free → ∃ c, X.env.cells.lookup y.1 = some c := fun y hy e =>
    (ok.free y hy e).elim (fun k => I0.ok.has _ (.inl k)) fun k => I0.ok.has _ (.inr k)
  refine wpAny_comprehension_free rfl fold (closure_ok free) ok.kind (fun y hy e => by rw [ok.uniq y hy, e]) ?_
  refine thn (hi.run pins s0 σ H0 _ I0 start) fun xv s1 hx => thn hx fun itv s2 got => ?_
  obtain ⟨it, fp, tn, J, H2, rfl, I2, T, run0, f2, q⟩ := got
  refine wpAny_newObj_type (newEnv_comp ?_)
  generalize hD : s2.heap.objs.size = D
  have none2 : H2 D = none := I2.hok.fresh (Nat.le_of_eq hD)
  obtain ⟨W, ⟨m0, w0⟩, turn⟩ := q D none2
  generalize e3 : ({ s2 with heap := s2.heap.push { cls := .type "dict", data := .dict #[] } } : Shared) = s3
  have h3 : s3.heap = s2.heap.push { cls := .type "dict", data := .dict #[] } := by rw [← e3]
  have I3 : Inv X pins σ (upd H2 D (.dT [])) s3 := by
    rw [← e3]
    refine I2.laid (t' := s2.toks) (fun _ _ e => Heap.get?_push_of_some _ e) (Nat.le_of_eq hD) ?_
    rw [← hD]; exact dt_empty s2.heap I2.big
  have f3 : ∀ b ∈ fp, FpOk X pins (upd H2 D (.dT [])) b ∧ b < s3.heap.objs.size := fun b hb => by
    obtain ⟨o, e, _⟩ := T.obj _ _ run0 b hb
    have lt := Heap.lt_size e
    refine ⟨⟨?_, (f2 b hb).2⟩, by rw [h3, Heap.size_push]; exact Nat.lt_succ_of_lt lt⟩
    rw [upd_ne (by rw [← hD]; exact Nat.ne_of_lt lt)]; exact (f2 b hb).1
  have run3 : tn 0 s3.heap := T.keep _ _ _ run0 fun b _ o e => by rw [h3]; exact Heap.get?_push_of_some _ e
  have I4 := block_start I3 ok nd f3
  have pg := gP s3 (upd H2 D (.dT [])) s3.heap.objs.size (cellsFrom (s3.heap.objs.size + 1) scope.names (cloFrom X.env.cells scope.names [])) fp
  have pk := kP s3 (upd H2 D (.dT [])) s3.heap.objs.size (cellsFrom (s3.heap.objs.size + 1) scope.names (cloFrom X.env.cells scope.names [])) fp
  have pv := vP s3 (upd H2 D (.dT [])) s3.heap.objs.size (cellsFrom (s3.heap.objs.size + 1) scope.names (cloFrom X.env.cells scope.names [])) fp
  have hid : ∀ b ∈ fp, (upd H2 D (.dT [])) b = none := fun b hb => (f3 b hb).1.1
  show codeAny _ _ (.compStart (.DictComp kx vx [⟨tg, iter, [], 0⟩] scope pos) 0 (.ref it) (.ref D) (compEnvC scope (cellsFrom (s3.heap.objs.size + 1) scope.names (cloFrom X.env.cells scope.names [])) s3.heap.objs.size X.env)) _
    { s3 with heap := pushCells (s3.heap.push { cls := .type "dict", data := .dict #[] }) scope.names }
  generalize hce : compEnvC scope (cellsFrom (s3.heap.objs.size + 1) scope.names (cloFrom X.env.cells scope.names [])) s3.heap.objs.size X.env = ce at I4 pg pk pv ⊢
  have loc : ce.locals = s3.heap.objs.size := by rw [← hce]; rfl
  generalize e5 : upd H2 D (.dT []) = H3 at I3 I4 pg pk pv w0 hid f3
  generalize e4 : ({ s3 with heap := pushCells (s3.heap.push { cls := .type "dict", data := .dict #[] }) scope.names } : Shared) = s4 at I4 ⊢
  have run4 : tn 0 s4.heap := T.keep _ _ _ run3 fun b _ o e => by rw [← e4]; exact pushCells_keeps _ _ _ _ (Heap.get?_push_of_some _ e)
  have stay : ∀ {σ' : L2.St} {H' : Hp} {s' : Shared}, Inv (X.blk s3 H3 scope ce fp) [] σ' H' s' → (∀ b ∈ fp, H' b = none) → ∀ b ∈ fp, FpOk (X.blk s3 H3 scope ce fp) [] H' b := fun I' hn b hb =>
    ⟨hn b hb, (I'.ok.exf b hb).1, I'.ok.exfs b hb, .inl hb, fun x c e => (I'.ok.exf b hb).2 x c e, fun p hp => absurd (show p ∈ ([] : List (Addr × Obj)) ++ [] from hp) (by simp)⟩
  have loop : codeAny (model X.prog X.w) X.A (.compLoop (.DictComp kx vx [⟨tg, iter, [], 0⟩] scope pos) 0 (.ref it) (.ref D) ce)
      (compPost (model X.prog X.w) X.A X.xe none (EP X pins σ Q) (.ref D) s3.heap.objs.size) s4 := by
    refine compLoop_anyD (fun n s' => ∃ i H', Inv (X.blk s3 H3 scope ce fp) [] (wipe σ (own.map (·.2))) H' s' ∧ tn i s'.heap ∧ (∀ b ∈ fp, H' b = none) ∧ W i n H') ?_ m0 ⟨0, H3, I4, run4, hid, w0⟩
    rintro n s5 ⟨i, H5, I5, run5, hid5, w5⟩
    rcases turn i n H5 w5 with ⟨stop, out⟩ | ⟨go, Nx, less, step⟩
    · refine thnF (T.done (X.blk s3 H3 scope ce fp) rfl rfl rfl calm i [] s5 _ H5 (fun _ _ => False) I5 (stay I5 hid5) run5 stop) fun r s6 back => ?_
      obtain ⟨rfl, I6⟩ := back
      have gone : H5 s3.heap.objs.size = none := loc ▸ (show H5 ce.locals = none from I6.free)
      obtain ⟨m, hm, _⟩ := I6.loc
      have hm : s6.heap.Ns ce.locals m := hm
      rw [loc] at hm
      have I7 : Inv X pins σ H5 s6 := I3.call' (ch := fp) I6.os I6.base I6.hok I6.bare fun b hb => by
        obtain ⟨_, k1, k2, k3, k4, k5⟩ := (f3 b hb).1
        exact ⟨k3, k1, k4, k5⟩
      obtain ⟨k0, k1, _, k3, k4, k5⟩ := I3.fpOk (Nat.le_refl _) gone
      exact ⟨m, hm, fun h2 sb => ⟨.ref D, H5, I7.turned (t' := s6.toks) (fun b o hb e => (sb.2 b hb).trans e) k0 k1 k3 k4 k5, rfl, out⟩⟩
    · refine thnF (T.item (X.blk s3 H3 scope ce fp) rfl rfl rfl calm i [] s5 _ H5 (fun _ _ => False) I5 (stay I5 hid5) run5 go) fun r s6 there => ?_
      obtain ⟨u, rfl, let6⟩ := there
      refine thnF let6 fun _ s7 more => ?_
      obtain ⟨x, H7, I7, r7, y7, run7, hid7⟩ := more
      have I7p := I7.pinned (stay I7 hid7) (T.obj _ _ run7)
      refine thnF (pg.run _ s7 _ H7 x u _ I7p r7 (step x H7 y7)) fun _ s8 set8 => ?_
      obtain ⟨σ8, H8, I8, wiped, q8⟩ := set8
      refine thnF ((pts_nil (X := X.blk s3 H3 scope ce fp)).run _ s8 σ8 H8 (fun b H' => b = true ∧ tk σ8 H' _) I8 ⟨rfl, q8⟩) fun b s9 all9 => ?_
      obtain ⟨H9, I9, rfl, q9⟩ := all9
      refine thnF (pk.run _ s9 σ8 H9 _ I9 q9) fun z s10 key => ?_
      obtain ⟨yk, H10, I10, r10, q10⟩ := key
      refine thnF (pv.run _ s10 σ8 H10 _ I10 q10) fun z2 s11 val => ?_
      obtain ⟨yv, H11, I11, r11, kb, kvs, ns, rfl, hkb, hD11, room, nx⟩ := val
      obtain rfl : z = Value.ref kb := r10
      refine set_tuple (X := X.blk s3 H3 scope ce fp) hu I11 hD11 hkb room r11 fun s12 I12 => ?_
      obtain ⟨m2, lt, w2⟩ := less _ nx
      have pin : ∀ b ∈ fp, ∀ o, s7.heap.get? b = some o → s12.heap.get? b = some o ∧ _ := fun b hb o e =>
        let z := I12.pin (b, o) (List.mem_append_right _ (List.mem_append_right _ (mem_pinsAt hb e)))
        ⟨z.1, z.2.1⟩
      have same : (wipe σ (own.map (·.2))).length = σ8.length := by rw [← wiped, wipe_length]
      refine ⟨m2, lt, i + 1, _, (I12.unpinned (pins := [])).weak same (fun j v e => ?_), T.keep _ _ _ run7 fun b hb o e => (pin b hb o e).1, fun b hb => ?_, w2⟩
      · rw [← wiped] at e; exact (wipe_some e).1
      · obtain ⟨o, e, _⟩ := T.obj _ _ run7 b hb
        exact (pin b hb o e).2
  exact codeAny_compStart_dict loop (T.self X.A 0 _ _ _ run4 loop)
end
end Pd
set_option Elab.async false
set_option linter.all false
set_option maxRecDepth 100000
set_option maxHeartbeats 3200000
namespace Pd
open PySem PySem.Spec PyProof.Rows L2
def dcRunT (g : DG) (tl : DA) (tv : DE) (ρ : Rho) (P : D → Ms → Prop) : List D → List (List Key) → List D → Ms → Prop
  | [], ks, acc, M => P (.dit ks acc) M
  | d :: r, ks, acc, M => g d ρ fun ρ' => tl ρ' M fun kds M1 => ∃ ns : List Int, kds = dI ns ∧ ns.length ≤ sizeLine ∧ kI ns ∉ ks ∧ acc.length < sizeLine ∧ tv ρ' M1 fun y M2 => dcRunT g tl tv ρ P r (ks ++ [kI ns]) (acc ++ [y]) M2
@[simp] def dDcT (it : DA) (g : DG) (tl : DA) (tv : DE) (vs : List Nat) : DE := fun ρ M P => it ρ M fun ds M1 => dcRunT g tl tv (wipeR ρ vs) P ds [] [] M1
theorem putT_new {ks : List (List Key)} {xs : List V} {k : List Key} {v : V} (hl : ks.length = xs.length) (h : k ∉ ks) : putK (ks.zip xs) k v = (ks ++ [k]).zip (xs ++ [v]) := by
  unfold putK
  rw [if_neg, List.zip_append hl]
  · rfl
  · intro z
    obtain ⟨kv, hm, e⟩ := List.any_eq_true.mp z
    have e := of_decide_eq_true e
    exact h (e ▸ (List.of_mem_zip (a := kv.1) (b := kv.2) hm).1)
def tFrzT (te : TE) : TE := fun σ H Q => te σ H fun v H1 => ∃ d kvs, v = .ref d ∧ H1 d = some (.dT kvs) ∧ ∀ o, Q v (upd H1 d (.frz o (.dT kvs)))
theorem pe_frzT {X : Cx} {e : Expr} {te : TE} (h : PE X e te) : PE X e (tFrzT te) := by
  refine ⟨fun pins s σ H Q I hw => ?_⟩
  refine thn (h.run pins s σ H _ I hw) fun v s1 ⟨x, H1, I1, rx, d, kvs, ex, hd, q⟩ => ?_
  subst ex
  obtain ⟨od, I2⟩ := I1.lock hd trivial
  exact ⟨_, _, I2, rx, q od⟩
theorem sim_dcT {K : PySem.W.Frag} {wi : TI} {it : DA} {g' : TG} {g : DG} {us : List Nat} {uk : TA} {tl : DA} {uv : TE} {tv : DE} {vs : List Nat} (hus : ∀ i ∈ us, i ∈ vs) (s : SimI K wi it) (sg : SimG K g' g us) (sk : SimA K uk tl) (se : SimE K uv tv) :
    SimE K (tFrzT (tDcT wi g' (tTup uk) uv vs)) (dDcT it g tl tv vs) := by
  intro as σ ρ L H M P Q hE A h q
  refine s as σ ρ L H M _ _ hE A h fun J ds L1 H1 M1 s1 A1 h1 w1 => ?_
  intro D hD
  have base : ∀ {L' H' : Hp} {M' : Ms} {acc : List (List Key × V)}, At K as M' L' H' → H' D = some (.dT acc) → L' D = none → D ∉ as → ∀ acc', At K as M' L' (upd H' D (.dT acc')) := by
    intro L' H' M' acc A' hd hl hn acc'
    refine ⟨fun a o h => ?_, A'.len, A'.nd, fun k a m e1 e2 => ?_, A'.nt⟩
    · have e : a ≠ D := fun z => by rw [z, hl] at h; cases h
      rw [upd_ne e]; exact A'.low a o h
    · obtain ⟨h3, o, h4, h5⟩ := A'.mo k a m e1 e2
      have e : a ≠ D := fun z => hn (by rw [← z]; exact List.mem_of_getElem? e1)
      exact ⟨h3, o, by rw [upd_ne e]; exact h4, h5.1, h5.2.keep (KeepC.over hd rfl)⟩
  have dn : D ∉ as := fun z => (A1.held z).2 hD
  have ld : L1 D = none := lowfree A1 hD
  refine ⟨fun i m H' => m = ds.length - i ∧ i ≤ ds.length ∧ ∃ L' M' ks xs acc, Step as L1 H1 as L' H' ∧ At K as M' L' H' ∧ H' D = some (.dT (ks.zip xs)) ∧ L' D = none ∧ ks.length = xs.length ∧ RpA K as L' xs acc ∧ dcRunT g tl tv (wipeR ρ vs) P (ds.drop i) ks acc M',
    ⟨ds.length, by simp, Nat.zero_le _, L1, M1, [], [], [], ⟨fun a o _ h => ?_, Ex.refl _, fun _ h _ => h, Pre.refl _, fun _ h => .inl h⟩, ?_, upd_same, ld, rfl, .nil, h1⟩, ?_⟩
  · rw [upd_ne (ne_of_none h hD)]; exact h
  · refine ⟨fun a o h => ?_, A1.len, A1.nd, fun k a m e1 e2 => ?_, A1.nt⟩
    · rw [upd_ne (ne_of_none (A1.low a o h) hD)]; exact A1.low a o h
    · obtain ⟨h3, o, h4, h5⟩ := A1.mo k a m e1 e2
      exact ⟨h3, o, by rw [upd_ne (ne_of_none h4 hD)]; exact h4, h5.1, h5.2.keep (KeepC.new hD)⟩
  rintro i m H' ⟨rfl, hi, L', M', ks, xs, acc, s', A', hd', ld', hkl, ra, hf⟩
  obtain ⟨wg, ws⟩ := w1 L' H' M' s'.k A'
  have upD : ∀ {L2 H2 : Hp} {M2 : Ms}, Step as L1 H1 as L2 H2 → At K as M2 L2 H2 → ∀ acc', Step as L1 H1 as L2 (upd H2 D (.dT acc')) := by
    intro L2 H2 M2 s2 A2 acc'
    exact ⟨fun a o ha h => by rw [upd_ne (ne_of_none h hD)]; exact s2.up a o ha h, s2.k, s2.hid, s2.pre, s2.new⟩
  by_cases hlt : i < ds.length
  · obtain ⟨go, wy⟩ := wg i hlt
    rw [List.drop_eq_getElem_cons hlt] at hf
    refine .inr ⟨go, fun H2 => ∃ L' M' ks xs acc, Step as L1 H1 as L' H2 ∧ At K as M' L' H2 ∧ H2 D = some (.dT (ks.zip xs)) ∧ L' D = none ∧ ks.length = xs.length ∧ RpA K as L' xs acc ∧ dcRunT g tl tv (wipeR ρ vs) P (ds.drop (i + 1)) ks acc M', fun H2 q => ⟨ds.length - (i + 1), by omega, rfl, hlt, q⟩, fun x H2 y => ?_⟩
    obtain ⟨d, L2, hd, s2, A2, r2⟩ := wy x H2 y
    rw [List.getElem?_eq_getElem hlt] at hd
    cases hd
    have hE2 : En K as L2 (wipeS σ vs) (wipeR ρ vs) := ((hE.mono (s1.k.trans (s'.k.trans s2.k)) (Pre.refl _)).wipe vs)
    have hd2 : H2 D = some (.dT (ks.zip xs)) := s2.up D _ dn hd'
    have ld2 : L2 D = none := s2.hid D ld' (by rw [hd']; simp)
    refine sg as L2 H2 x _ _ _ M' _ _ hE2 A2 r2 hf fun σ3 ρ3 e3 p3 wp => ⟨?_, ?_⟩
    · have z := wp vs hus
      rw [z, wipe_wipe]
    · have s12 := s'.trans A' s2
      refine sk as σ3 ρ3 L2 H2 M' _ _ e3 A2 p3 fun kvs kds L4 H4 M4 s4 A4 h4 r4 => ?_
      obtain ⟨ns, rfl, hnz, hk, hz, h4⟩ := h4
      have ev := RpA.ints r4
      subst ev
      refine ⟨by rw [List.length_map]; exact hnz, fun b hb => ?_⟩
      have A4' := A4.know (o := .tup (ns.map V.int)) hb
      have s4' := Step.know (o := .tup (ns.map V.int)) A4 hb
      have hd4 : (upd H4 b (.tup (ns.map V.int))) D = some (.dT (ks.zip xs)) := s4'.up D _ dn (s4.up D _ dn hd2)
      have ld4 : (upd L4 b (.tup (ns.map V.int))) D = none := s4'.hid D (s4.hid D ld2 (by rw [hd2]; simp)) (by rw [s4.up D _ dn hd2]; simp)
      have s14 := (s12.trans A2 s4).trans A4 s4'
      have s44 := s4.trans A4 s4'
      refine se as σ3 ρ3 _ _ M4 _ _ (e3.mono s44.k s44.pre) A4' h4 fun v z L5 H5 M5 s5 A5 h5 r5 => ?_
      have hd5 : H5 D = some (.dT (ks.zip xs)) := s5.up D _ dn hd4
      have ld5 : L5 D = none := s5.hid D ld4 (by rw [hd4]; simp)
      have hb5 : H5 b = some (.tup (ns.map V.int)) := A5.low b _ (s5.k b _ upd_same)
      have s15 := s14.trans A4' s5
      have ra5 := ra.mono (s2.k.trans (s44.k.trans s5.k)) (Pre.refl as)
      refine ⟨b, ks.zip xs, ns, rfl, hb5, hd5, by rw [List.length_zip, hkl, Nat.min_self, ra.length]; exact hz, L5, M5, ks ++ [kI ns], xs ++ [v], acc ++ [z], upD (s'.trans A' (s2.trans A2 (s44.trans A4' s5))) A5 _, base A5 hd5 ld5 dn _, ?_, ld5, by rw [List.length_append, List.length_append, hkl]; rfl, ra5.append (.one r5), h5⟩
      rw [upd_same, putT_new hkl hk]
  · have e : i = ds.length := by omega
    subst e
    rw [List.drop_length] at hf
    refine .inl ⟨ws, ?_⟩
    have hD0 : H D = none := by
      cases e : H D with
      | none => rfl
      | some o => have := s1.up D _ dn e; rw [hD] at this; cases this
    refine ⟨D, ks.zip xs, rfl, hd', fun o => ?_⟩
    exact q _ _ _ _ M' ((s1.trans A1 s').shown hD0 ld') (A'.shown ld' dn (KeepC.over hd' rfl) (fun ps z => by cases z)) hf (.dit (vs := xs) ⟨o, upd_same⟩ hkl (ra.mono (Ex.new ld') (Pre.refl _)))
def upA (K : PySem.W.Frag) (t : DA) : TA := fun σ H Q => ∃ as ρ L M P, En K as L σ ρ ∧ At K as M L H ∧ t ρ M P ∧ ∀ vs ds L' H' M', Step as L H as L' H' → At K as M' L' H' → P ds M' → RpA K as L' vs ds → Q vs H'
theorem sim_upA {K : PySem.W.Frag} (t : DA) : SimA K (upA K t) t := fun as σ ρ L H M P Q hE A h q => ⟨as, ρ, L, M, P, hE, A, h, q⟩
theorem PDA.up {X : Cx} {es : List Expr} {t : DA} (h : PDA X es t) : PA X es (upA X.K t) := by
  obtain ⟨u, p, s⟩ := h.ex
  refine ⟨fun pos pins s1 σ H Q I hq => ?_⟩
  obtain ⟨as, ρ, L, M, P, hE, A, h1, q⟩ := hq
  exact p.run pos pins s1 σ H _ I (s as σ ρ L H M P _ hE A h1 q)
section
variable {X : Cx}
theorem pd_dcT {es : List Expr} {vx tg iter : Expr} {x1} {p1 : Pos} {scope : Scope} (own : List (Str × Nat)) {pos : Pos} {it : DA} {g : DG} {us : List Nat} {tl : DA} {tv : DE} (hc : X.calm = true) (hu : X.A.units < cLine) (hN : X.N.Nodup) (hi : PDI X tg iter it) (ok : BlkOk X.N X.env.scope scope own)
    (hg : ∀ (s : Shared) (H : Hp) (C : Addr) (cl : List (Str × Addr)) (fp : List Addr), PDG (X.blk s H scope (compEnvC scope cl C X.env) fp) tg g us)
    (hk : ∀ (s : Shared) (H : Hp) (C : Addr) (cl : List (Str × Addr)) (fp : List Addr), PDA (X.blk s H scope (compEnvC scope cl C X.env) fp) es tl)
    (he : ∀ (s : Shared) (H : Hp) (C : Addr) (cl : List (Str × Addr)) (fp : List Addr), PD (X.blk s H scope (compEnvC scope cl C X.env) fp) vx tv) (hus : ∀ i ∈ us, i ∈ own.map (·.2) := by decide) (hs : ∀ x, foldedSetIterable iter X.env x = pure x := by intro _; rfl) :
    PD X (.DictComp (.Tuple es x1 p1) vx [⟨tg, iter, [], 0⟩] scope pos) (dDcT it g tl tv (own.map (·.2))) := by
  obtain ⟨wi, p, s⟩ := hi.ex
  exact ⟨_, pe_frzT (pe_dcT hc hu hN p ok (fun a b c d e => (hg a b c d e).up) (fun a b c d e => pe_tup (hk a b c d e).up) (fun a b c d e => (he a b c d e).up) hs), sim_dcT hus s (sim_upG g us) (sim_upA tl) (sim_upE tv)⟩
end
end Pd
set_option Elab.async false
set_option linter.all false
set_option maxRecDepth 100000
set_option maxHeartbeats 3200000
namespace Pd
open PySem PySem.Spec PyProof.Rows L2
def rOr (r1 r2 : R2) : R2 := fun x y H Q => r1 x y H Q ∨ r2 x y H Q
@[simp] def oOr (o1 o2 : D2) : D2 := fun x y M P => o1 x y M P ∨ o2 x y M P
theorem op_or2 {X : Cx} {f : Value → Value → Sem Value} {r1 r2 : R2} (h1 : OpR X f r1) (h2 : OpR X f r2) : OpR X f (rOr r1 r2) := fun pins s σ H x y v u Q I rx ry h =>
  h.elim (h1 pins s σ H x y v u Q I rx ry) (h2 pins s σ H x y v u Q I rx ry)
theorem sr_or2 {K : PySem.W.Frag} {r1 r2 : R2} {o1 o2 : D2} (h1 : SimR K r1 o1) (h2 : SimR K r2 o2) : SimR K (rOr r1 r2) (oOr o1 o2) := fun as L H M x y d e P Q A a b h q =>
  h.elim (fun h => .inl (h1 as L H M x y d e P Q A a b h q)) fun h => .inr (h2 as L H M x y d e P Q A a b h q)
@[simp] def dTupR (t : DE) : DE := fun ρ M P => t ρ M fun x M1 => ∃ n : Nat, x = .int n ∧ n ≤ 1000 ∧ P (.tup (dI ((List.range n).map fun (i : Nat) => (i : Int)))) M1
/-- max of a list or a tuple of ints, not empty -/
@[simp] def oMaxS : DC := fun xs M P => ∃ (d : D) (ns : List Int), xs = [d] ∧ isSeq d (dI ns) ∧ ns ≠ [] ∧ ∀ m, m ∈ ns → (∀ y ∈ ns, y ≤ m) → P (.int m) M
end Pd
namespace Spc
abbrev Rw := List Int
def mn (p : Int) (row other : Rw) (t : Int) : Rw := List.zipWith (fun a b => (a - t * b) % p) row other
def at_ (l : Rw) (i : Nat) : Int := l.getD i 0
def ld (l : Rw) : Nat := l.idxOf 1
def rmd (p : Int) : List Rw → Rw → Rw
  | [], row => row
  | l :: R, row => rmd p R (mn p row l (at_ row (ld l)))
def nz (row : Rw) : Bool := row.any fun n => n != 0
def fst1 (row : Rw) : Int := (row.filter fun n => n != 0).headD 0
def rngL (p : Int) : List Int := (List.range p.toNat).map fun (k : Nat) => (k : Int)
def inv1 (p : Int) (f : Int) : Int := ((rngL p).filter fun k => k * f % p == 1).headD 0
def led (p : Int) (row : Rw) : Rw := row.map fun a => a * inv1 p (fst1 row) % p
/-- a > b, as Python compares tuples -/
def gtR : Rw → Rw → Bool
  | [], _ => false
  | _ :: _, [] => true
  | a :: x, b :: y => if a = b then gtR x y else decide (b < a)
def insD (x : Rw) : List Rw → List Rw
  | [] => [x]
  | y :: l => if gtR y x then y :: insD x l else x :: y :: l
def srtD : List Rw → List Rw
  | [] => []
  | x :: l => insD x (srtD l)
def step (p : Int) (R : List Rw) (y : Rw) : List Rw :=
  if nz (rmd p R y) then srtD (led p (rmd p R y) :: R.map fun o => rmd p [led p (rmd p R y)] o) else R
def red (p : Int) (rows : List Rw) : List Rw := rows.foldl (step p) []
def forced (R : List Rw) (p : Int) (free : Nat) (i : Nat) : Int := match R.find? fun r => ld r == i with | some r => -(at_ r free) % p | none => 0
def zrow (p : Int) (n : Nat) (R : List Rw) (free : Nat) : Rw := (List.range n).map fun i => if i = free then 1 else forced R p free i
def zrows (p : Int) (n : Nat) (R : List Rw) : List Rw := red p (((List.range n).filter fun i => !((R.map ld).contains i)).map (zrow p n R))
def zero (n : Nat) : Rw := List.replicate n 0
def given (p : Int) (n : Nat) (R : List Rw) : List Rw := R.foldl (fun rows l => rows.flatMap fun row => (rngL p).map fun t => mn p row l (-t)) [zero n]
def dot (x y : Rw) (p : Int) : Int := (List.zipWith (fun a b => a * b) x y).sum % p
def allD (p : Int) : Nat → List Rw
  | 0 => [[]]
  | n + 1 => (allD p n).flatMap fun d => (rngL p).map fun v => d ++ [v]
def blind (p : Int) (n : Nat) (R : List Rw) (item : Rw) : Option Rw := (zrows p n R).reverse.find? fun d => dot item d p != 0
/-- what is asked of the spaces of one form -/
def zs (p : Int) (n : Nat) (R : List Rw) : List Rw := given p n (zrows p n R)
def good (p : Int) (n : Nat) (SP : List (List Rw)) (R : List Rw) : Bool :=
  (allD p n).all fun y => SP.contains (step p R y) && (zs p n (step p R y) == (zs p n R).filter fun d => dot y d p == 0) && (blind p n R y == ((zs p n R).find? fun d => dot y d p != 0)) && ((!nz (rmd p R y)) == ((zs p n R).find? fun d => dot y d p != 0).isNone)
def shpB (p : Int) (n : Nat) (SP : List (List Rw)) : Bool :=
  SP.contains [] && (zs p n [] == allD p n) && SP.all (fun R => decide (R.length ≤ 4) && decide ((R.map ld).Nodup) && R.all fun l => decide (l.length = n) && l.contains 1 && l.all fun x => decide (0 ≤ x) && decide (x < p)) && (rngL p).all fun f => f == 0 || (rngL p).any fun k => k * f % p == 1
end Spc
namespace Spc
set_option maxRecDepth 100000
def SP21 : List (List Rw) := [[], [[1]]]
theorem shp21 : shpB 2 1 SP21 = true := by decide +kernel
theorem good21 : (SP21.all fun R => good 2 1 SP21 R) = true := by decide +kernel
def SP22 : List (List Rw) := [[], [[0, 1]], [[1, 0]], [[1, 1]], [[1, 0], [0, 1]]]
theorem shp22 : shpB 2 2 SP22 = true := by decide +kernel
theorem good22 : (SP22.all fun R => good 2 2 SP22 R) = true := by decide +kernel
def SP23 : List (List Rw) := [[], [[0, 0, 1]], [[0, 1, 0]], [[0, 1, 1]], [[1, 0, 0]], [[1, 0, 1]], [[1, 1, 0]], [[1, 1, 1]], [[0, 1, 0], [0, 0, 1]], [[1, 0, 0], [0, 0, 1]], [[1, 0, 0], [0, 1, 0]], [[1, 0, 0], [0, 1, 1]], [[1, 0, 1], [0, 1, 0]], [[1, 0, 1], [0, 1, 1]], [[1, 1, 0], [0, 0, 1]], [[1, 0, 0], [0, 1, 0], [0, 0, 1]]]
theorem shp23 : shpB 2 3 SP23 = true := by decide +kernel
theorem good23 : (SP23.all fun R => good 2 3 SP23 R) = true := by decide +kernel
def SP24 : List (List Rw) := [[], [[0, 0, 0, 1]], [[0, 0, 1, 0]], [[0, 0, 1, 1]], [[0, 1, 0, 0]], [[0, 1, 0, 1]], [[0, 1, 1, 0]], [[0, 1, 1, 1]], [[1, 0, 0, 0]], [[1, 0, 0, 1]], [[1, 0, 1, 0]], [[1, 0, 1, 1]], [[1, 1, 0, 0]], [[1, 1, 0, 1]], [[1, 1, 1, 0]], [[1, 1, 1, 1]], [[0, 0, 1, 0], [0, 0, 0, 1]], [[0, 1, 0, 0], [0, 0, 0, 1]], [[0, 1, 0, 0], [0, 0, 1, 0]], [[0, 1, 0, 0], [0, 0, 1, 1]], [[0, 1, 0, 1], [0, 0, 1, 0]], [[0, 1, 0, 1], [0, 0, 1, 1]], [[0, 1, 1, 0], [0, 0, 0, 1]], [[1, 0, 0, 0], [0, 0, 0, 1]], [[1, 0, 0, 0], [0, 0, 1, 0]], [[1, 0, 0, 0], [0, 0, 1, 1]], [[1, 0, 0, 0], [0, 1, 0, 0]], [[1, 0, 0, 0], [0, 1, 0, 1]], [[1, 0, 0, 0], [0, 1, 1, 0]], [[1, 0, 0, 0], [0, 1, 1, 1]], [[1, 0, 0, 1], [0, 0, 1, 0]], [[1, 0, 0, 1], [0, 0, 1, 1]], [[1, 0, 0, 1], [0, 1, 0, 0]], [[1, 0, 0, 1], [0, 1, 0, 1]], [[1, 0, 0, 1], [0, 1, 1, 0]], [[1, 0, 0, 1], [0, 1, 1, 1]], [[1, 0, 1, 0], [0, 0, 0, 1]], [[1, 0, 1, 0], [0, 1, 0, 0]], [[1, 0, 1, 0], [0, 1, 0, 1]], [[1, 0, 1, 0], [0, 1, 1, 0]], [[1, 0, 1, 0], [0, 1, 1, 1]], [[1, 0, 1, 1], [0, 1, 0, 0]], [[1, 0, 1, 1], [0, 1, 0, 1]], [[1, 0, 1, 1], [0, 1, 1, 0]], [[1, 0, 1, 1], [0, 1, 1, 1]], [[1, 1, 0, 0], [0, 0, 0, 1]], [[1, 1, 0, 0], [0, 0, 1, 0]], [[1, 1, 0, 0], [0, 0, 1, 1]], [[1, 1, 0, 1], [0, 0, 1, 0]], [[1, 1, 0, 1], [0, 0, 1, 1]], [[1, 1, 1, 0], [0, 0, 0, 1]], [[0, 1, 0, 0], [0, 0, 1, 0], [0, 0, 0, 1]], [[1, 0, 0, 0], [0, 0, 1, 0], [0, 0, 0, 1]], [[1, 0, 0, 0], [0, 1, 0, 0], [0, 0, 0, 1]], [[1, 0, 0, 0], [0, 1, 0, 0], [0, 0, 1, 0]], [[1, 0, 0, 0], [0, 1, 0, 0], [0, 0, 1, 1]], [[1, 0, 0, 0], [0, 1, 0, 1], [0, 0, 1, 0]], [[1, 0, 0, 0], [0, 1, 0, 1], [0, 0, 1, 1]], [[1, 0, 0, 0], [0, 1, 1, 0], [0, 0, 0, 1]], [[1, 0, 0, 1], [0, 1, 0, 0], [0, 0, 1, 0]], [[1, 0, 0, 1], [0, 1, 0, 0], [0, 0, 1, 1]], [[1, 0, 0, 1], [0, 1, 0, 1], [0, 0, 1, 0]], [[1, 0, 0, 1], [0, 1, 0, 1], [0, 0, 1, 1]], [[1, 0, 1, 0], [0, 1, 0, 0], [0, 0, 0, 1]], [[1, 0, 1, 0], [0, 1, 1, 0], [0, 0, 0, 1]], [[1, 1, 0, 0], [0, 0, 1, 0], [0, 0, 0, 1]], [[1, 0, 0, 0], [0, 1, 0, 0], [0, 0, 1, 0], [0, 0, 0, 1]]]
theorem shp24 : shpB 2 4 SP24 = true := by decide +kernel
theorem good24 : (SP24.all fun R => good 2 4 SP24 R) = true := by decide +kernel
def SP31 : List (List Rw) := [[], [[1]]]
theorem shp31 : shpB 3 1 SP31 = true := by decide +kernel
theorem good31 : (SP31.all fun R => good 3 1 SP31 R) = true := by decide +kernel
def SP32 : List (List Rw) := [[], [[0, 1]], [[1, 0]], [[1, 1]], [[1, 2]], [[1, 0], [0, 1]]]
theorem shp32 : shpB 3 2 SP32 = true := by decide +kernel
theorem good32 : (SP32.all fun R => good 3 2 SP32 R) = true := by decide +kernel
def SP33 : List (List Rw) := [[], [[0, 0, 1]], [[0, 1, 0]], [[0, 1, 1]], [[0, 1, 2]], [[1, 0, 0]], [[1, 0, 1]], [[1, 0, 2]], [[1, 1, 0]], [[1, 1, 1]], [[1, 1, 2]], [[1, 2, 0]], [[1, 2, 1]], [[1, 2, 2]], [[0, 1, 0], [0, 0, 1]], [[1, 0, 0], [0, 0, 1]], [[1, 0, 0], [0, 1, 0]], [[1, 0, 0], [0, 1, 1]], [[1, 0, 0], [0, 1, 2]], [[1, 0, 1], [0, 1, 0]], [[1, 0, 1], [0, 1, 1]], [[1, 0, 1], [0, 1, 2]], [[1, 0, 2], [0, 1, 0]], [[1, 0, 2], [0, 1, 1]], [[1, 0, 2], [0, 1, 2]], [[1, 1, 0], [0, 0, 1]], [[1, 2, 0], [0, 0, 1]], [[1, 0, 0], [0, 1, 0], [0, 0, 1]]]
theorem shp33 : shpB 3 3 SP33 = true := by decide +kernel
theorem good33 : (SP33.all fun R => good 3 3 SP33 R) = true := by decide +kernel
def SP52 : List (List Rw) := [[], [[0, 1]], [[1, 0]], [[1, 1]], [[1, 2]], [[1, 3]], [[1, 4]], [[1, 0], [0, 1]]]
theorem shp52 : shpB 5 2 SP52 = true := by decide +kernel
theorem good52 : (SP52.all fun R => good 5 2 SP52 R) = true := by decide +kernel
def SP72 : List (List Rw) := [[], [[0, 1]], [[1, 0]], [[1, 1]], [[1, 2]], [[1, 3]], [[1, 4]], [[1, 5]], [[1, 6]], [[1, 0], [0, 1]]]
theorem shp72 : shpB 7 2 SP72 = true := by decide +kernel
theorem good72 : (SP72.all fun R => good 7 2 SP72 R) = true := by decide +kernel
end Spc
namespace Spc
set_option maxRecDepth 100000
end Spc
set_option Elab.async false
set_option linter.all false
set_option maxRecDepth 100000
set_option maxHeartbeats 3200000
namespace Pd
open PySem PySem.Spec PyProof.Rows L2
theorem okM_apI {M : Ms} {C : Addr} (h : okM M) : okM (M ++ [.ins C []]) := by
  unfold okM
  rw [List.length_append, List.length_singleton]
  refine List.all_eq_true.mpr fun mo hmo => ?_
  rcases List.mem_append.mp hmo with h2 | h2
  · have := List.all_eq_true.mp h mo h2
    cases mo with
    | lst ds => exact apartA_up (Nat.le_succ _) ds this
    | ins C fs => exact apartF_up (Nat.le_succ _) fs this
    | tab P q => rfl
    | dic ks ds => exact apartA_up (Nat.le_succ _) ds this
    | dit ks ds => exact apartA_up (Nat.le_succ _) ds this
  · rw [List.mem_singleton.mp h2]; rfl
theorem dcT_map {g : DG} {tl : DA} {tv : DE} {ρ : Rho} {P : D → Ms → Prop} {M : Ms} (fk : D → List Int) (fv : D → D) : ∀ (ds : List D) (ks : List (List Key)) (acc : List D),
    (∀ d ∈ ds, ∀ (ks : List (List Key)) (acc : List D) (k : List (List Key) → List D → Ms → Prop), kI (fk d) ∉ ks → acc.length < sizeLine → k (ks ++ [kI (fk d)]) (acc ++ [fv d]) M →
      g d ρ fun ρ' => tl ρ' M fun kds M1 => ∃ ns : List Int, kds = dI ns ∧ ns.length ≤ sizeLine ∧ kI ns ∉ ks ∧ acc.length < sizeLine ∧ tv ρ' M1 fun y M2 => k (ks ++ [kI ns]) (acc ++ [y]) M2) →
    (ks ++ ds.map fun d => kI (fk d)).Nodup → acc.length + ds.length ≤ sizeLine → P (.dit (ks ++ ds.map fun d => kI (fk d)) (acc ++ ds.map fv)) M → dcRunT g tl tv ρ P ds ks acc M
  | [], ks, acc, _, _, _, p => by
    show P (.dit ks acc) M
    simpa using p
  | d :: r, ks, acc, h, hn, hz, p => by
    rw [List.length_cons] at hz
    refine h d List.mem_cons_self ks acc (fun ks' acc' M' => dcRunT g tl tv ρ P r ks' acc' M') ?_ (by omega) ?_
    · intro hm
      rw [List.map_cons] at hn
      exact (List.nodup_append.mp hn).2.2 _ hm _ List.mem_cons_self rfl
    · refine dcT_map fk fv r _ _ (fun e he => h e (List.mem_cons_of_mem _ he)) ?_ (by rw [List.length_append, List.length_singleton]; omega) ?_
      · rw [List.append_assoc]; exact hn
      · rw [List.append_assoc, List.append_assoc]; exact p
section
variable {X : Cx} {pos : Pos}
theorem pd_isi2K {K : PySem.W.Frag} {e : Expr} {n1 n2 : Str} {T1 T2 : String} {p p1 p2 tp : Pos} {k : Nat} {te : DE} (hK : X.K = K) (hg : Gl X "isinstance") (hm : X.mg "isinstance" = none) (he : PD X e te) (g1 : Gl X n1) (m1 : X.mg n1 = none) (v1 : bootBuiltins n1 = some (.type T1)) (g2 : Gl X n2) (m2 : X.mg n2 = none) (v2 : bootBuiltins n2 = some (.type T2))
    (d1 : n1 ≠ "__name__" := by decide) (d2 : n2 ≠ "__name__" := by decide) (e1 : (n1 == ("__debug__" : Str)) = false := by decide) (e2 : (n2 == ("__debug__" : Str)) = false := by decide)
    (hs1 : starEach [e, .Tuple [.Name n1 p1, .Name n2 p2] k tp] X.env = (false, eval e X.env) :: starEach [.Tuple [.Name n1 p1, .Name n2 p2] k tp] X.env := by rfl) (hs2 : starEach [.Tuple [.Name n1 p1, .Name n2 p2] k tp] X.env = (false, eval (.Tuple [.Name n1 p1, .Name n2 p2] k tp) X.env) :: starEach [] X.env := by rfl)
    (hs3 : starEach [.Name n1 p1, .Name n2 p2] X.env = (false, eval (.Name n1 p1) X.env) :: starEach [.Name n2 p2] X.env := by rfl) (hs4 : starEach [.Name n2 p2] X.env = (false, eval (.Name n2 p2) X.env) :: starEach [] X.env := by rfl)
    (hpl : (backTo pos (starEach [.Tuple [.Name n1 p1, .Name n2 p2] k tp] X.env)).any (·.1) = false := by rfl) :
    PD X (.Call (.Name "isinstance" p) [e, .Tuple [.Name n1 p1, .Name n2 p2] k tp] [] pos) (dIsi2 K te T1 T2) := by
  subst hK
  exact pd_isi2 hg hm he g1 m1 v1 g2 m2 v2 d1 d2 e1 e2 hs1 hs2 hs3 hs4 hpl
end
end Pd
set_option Elab.async false
set_option linter.all false
set_option maxRecDepth 100000
set_option maxHeartbeats 2000000
namespace Pd
open PySem PySem.Spec PyProof.Rows L2
theorem isT {h : Heap} {a : Addr} {items : Array Value} (x : IsTup h a items) : h.IsTuple a items := x
/-- the iterator of a tuple, just made -/
def TItO (t it : Addr) : HO := .ext fun h => h.IsTupleIter it t 0
theorem titO_ok {P : Program} {w : World} {H : Hp} {h : Heap} {t it : Addr} (e : h.IsTupleIter it t 0) : ObjOk P w H h it (TItO t it) := ⟨e, let ⟨o, ho, _⟩ := e; ⟨o, ho⟩, fun _ _ q k => q.at k⟩
/-- iter(t) -/
def rIterT (K : PySem.W.Frag) : List V → Hp → VK → Prop := fun xs H Q => ∃ (t : Addr) (vs : List V), xs = [.ref t] ∧ SqT K H t vs ∧ ∀ it, H it = none → Q (.ref it) (upd H it (TItO t it))
section
variable {X : Cx}
theorem call_iterT : CallR X (.builtin "iter") (rIterT X.K) := by
  intro pins s σ H xs us Q I r h
  obtain ⟨t, vs, rfl, hq, q⟩ := h
  obtain rfl := Vals.ref1 r
  obtain ⟨its, rv, pl, hz⟩ := I.tuple hq
  refine Calls.call_function_entry (by decide +kernel) (by decide +kernel) PySem.W.kdk_entry_iter (PySem.W.kdk_args_iter _) ?_
  unfold Builtin.«iter»
  refine wpAny_bind (m := someArgs "iter" 1 2 _) (wpAny_of_eq (a := [Value.ref t]) (by first | rfl | kernel_rfl!) ?_)
  refine wpAny_bind (wpAny_pyIter_tuple (isT pl) ?_)
  exact wpAny_pure ⟨_, rfl, ⟨.ref s.heap.objs.size, _, I.laid (t' := s.toks) (fun b u e => Heap.get?_push_of_some _ e) (Nat.le_refl _) (titO_ok ⟨_, Heap.get?_push_size _ rfl, rfl, rfl⟩), rfl, q _ (I.hok.fresh (Nat.le_refl _))⟩⟩
end
end Pd
set_option Elab.async false
set_option linter.all false
set_option maxRecDepth 100000
set_option maxHeartbeats 2000000
namespace Pd
open PySem PySem.Spec PyProof.Rows L2
/-- what __iter__ promises: the iterator of the tuple in the field f -/
def spIt (K : PySem.W.Frag) (C : Addr) (f : Str) : Sp := fun vs H Q _ => ∃ (a dx : Addr) (fs : List (Str × V)) (t : Addr) (xs : List V), vs = [.ref a] ∧ H a = some (.ins C dx fs) ∧ fs.lookup f = some (.ref t) ∧ SqT K H t xs ∧ ∀ it, H it = none → Q (.ref it) (upd H it (TItO t it))
structure IterC (K : PySem.W.Frag) (C fi fl : Addr) : Prop where
  it : PySem.W.findIn K (.ref C) "__iter__" = some (some (.ref fi))
  itF : PySem.W.isFn K (.ref fi) = true
  ln : PySem.W.findIn K (.ref C) "__len__" = some (some (.ref fl))
  lnF : PySem.W.isFn K (.ref fl) = true
section
variable {X : Cx} {pins : List (Addr × Obj)} {σ : L2.St} {H : Hp} {s : Shared} {C fi fl : Addr}
/-- the hint: the length is asked -/
theorem own_hintL {A : Around} {E : Value → Shared → Prop} {Q : Bool → Shared → Prop} {K : PySem.W.Frag} {a : Addr} {ox : Obj} {od : Option Obj} (hc : IterC K C fi fl) {h₀ : Heap} {m : Str → Option Value} {L : Addr} (F : Fr h₀ L s.heap m) (X₀ : K.In h₀) (J : PySem.W.InstAt s.heap a ox C od)
    (h : wpAny (model X.prog X.w) A.in1 (call (.ref fl) [.ref a]) (PySem.W.LenBack fun v s' => ∃ (i : Int) (t : Tok), v = .int i t ∧ 0 ≤ i ∧ i < 16777216 ∧ ∀ b, Q b s') (fun _ _ => False) s) :
    wpAny (model X.prog X.w) A (Builtin.List.listLengthHint (.ref a)) Q E s := by
  have hK := X₀.keeps F.keep
  unfold Builtin.List.listLengthHint
  refine wpAny_bind (wpAny_bind (J.type.here ((PySem.W.looks_findIn hK hc.ln).here ?_)))
  refine PySem.W.KFB.if_not rfl ?_
  refine PySem.W.KFB.if_so rfl ?_
  refine wpAny_bind (wpAny_rule ?_)
  refine wpAny_bind (wpAny_attempt (PySem.W.len_K F X₀ J hc.ln hc.lnF (wpAny_mono h (fun v s' hv => ?_) fun _ _ z => z.elim)))
  cases v <;> first | exact hv.elim | skip
  obtain ⟨⟨h0, h1⟩, i, t, e, h2, h3, hQ⟩ := hv
  cases e
  refine ⟨⟨h0, h1⟩, ?_⟩
  refine wpAny_bind (wpAny_of_eq (a := some _) (by first | rfl | kernel_rfl) ?_)
  refine PySem.W.KFB.if_not ?_ ?_
  · unfold Builtin.List.listTooLong
    exact decide_eq_false (by rw [sizeLine_eq]; omega)
  · exact wpAny_pure (hQ _)
theorem tit_ne (t it : Addr) (qn : Str) : TItO t it ≠ LamX.CodeO it qn := by
  intro e
  unfold TItO LamX.CodeO at e
  have e2 := HO.ext.inj e
  let ob : Obj := { cls := .type "tuple_iterator", data := .fields #[.ref t, .int 0 0] }
  let hh : Heap := { objs := Array.replicate (it + 1) ob }
  have hg : hh.get? it = some ob := by
    unfold Heap.get?
    have : hh.objs[it]? = some ob := by
      show (Array.replicate (it + 1) ob)[it]? = _
      rw [Array.getElem?_replicate, if_pos (Nat.lt_succ_self it)]
    rw [this]
  have h1 : hh.IsTupleIter it t 0 := ⟨ob, hg, rfl, rfl⟩
  have h2 := congrFun e2 hh
  rw [h2] at h1
  obtain ⟨oc, vs, tk, e3, e4, e5⟩ := h1
  rw [hg] at e3
  cases e3
  cases e4
  cases e5
variable {n : Nat} {fdI fdL : FuncData} {psI psL : List Str} {f : Str} {WL : DC} {A1 : Around} {q a : Addr}
/-- behind the walk: the list is full, the iterator is forgotten -/
theorem un_list {fs : List Addr} {H H1 : Hp} {h h1 h2 : Heap} {it t q : Addr} {xs : List V} (u : Un fs [] H H1 h h1) (hn : h.get? it = none) (hq : H q = some (.lst [])) (hq1 : H1 q = some (.lst [])) (hi1 : H1 it = some (TItO t it))
    (k : ∀ b o, b ≠ q → b ≠ it → h1.get? b = some o → h2.get? b = some o) (hg : ∃ o, h2.get? q = some o) : Un fs [] H (upd (ItX.dropH H1 it) q (.lst xs)) h h2 := by
  have ni : ∀ {b o}, h.get? b = some o → b ≠ it := fun e z => by rw [z, hn] at e; cases e
  have nq : ∀ {b}, H b = none → b ≠ q := fun e z => by rw [z, hq] at e; cases e
  have pass : ∀ {b : Addr} {x : HO}, H1 b = some x → x ≠ .lst [] → x ≠ TItO t it → upd (ItX.dropH H1 it) q (.lst xs) b = some x := fun {b x} e n1 n2 => by
    have b1 : b ≠ q := fun z => by rw [z, hq1] at e; exact n1 (Option.some.inj e).symm
    have b2 : b ≠ it := fun z => by rw [z, hi1] at e; exact n2 (Option.some.inj e).symm
    rw [upd_ne b1, ItX.dropH_ne b2]; exact e
  refine ⟨fun b o e n hb hx => k b o (nq n) (ni e) (u.keep b o e n hb hx), fun b o e n hb hx => ?_, fun b o e n hx => ?_, fun b o e hx => ?_, fun b ys e => pass (u.tups b ys e) (fun z => nomatch z) (fun z => nomatch z), fun b o x e => pass (u.frzs b o x e) (fun z => nomatch z) (fun z => nomatch z), fun b ps e => ?_⟩
  · obtain ⟨sl, e1⟩ := u.slot b o e n hb hx
    exact ⟨sl, k b _ (nq n) (ni e) e1⟩
  · rw [upd_ne (nq n), ItX.dropH_ne (ni e)]
    exact u.free b o e n hx
  · by_cases z : b = q
    · subst z; exact hg
    · obtain ⟨o', e1⟩ := u.there b o e hx
      exact ⟨o', k b o' z (ni e) e1⟩
  · obtain ⟨more, e1⟩ := u.tbls b ps e
    exact ⟨more, pass e1 (fun z => nomatch z) (fun z => nomatch z)⟩
theorem hok_list {P : Program} {w : World} {H1 : Hp} {h1 h2 : Heap} {it t q : Addr} {xs : List V} {its : List Value} {c : Nat} (ok : HOk P w H1 h1) (hq1 : H1 q = some (.lst [])) (hi1 : H1 it = some (TItO t it))
    (k : ∀ b o, b ≠ q → b ≠ it → h1.get? b = some o → h2.get? b = some o) (hv : Vals xs its) (hz : xs.length ≤ sizeLine) (hg : h2.get? q = some { cls := .type "list", data := .seq its.toArray c }) : HOk P w (upd (ItX.dropH H1 it) q (.lst xs)) h2 := by
  intro b o e
  by_cases z : b = q
  · subst z
    rw [upd_same] at e
    cases e
    exact ⟨hz, its, c, hv, hg⟩
  · rw [upd_ne z] at e
    by_cases y : b = it
    · rw [y, ItX.dropH_same] at e; cases e
    · rw [ItX.dropH_ne y] at e
      have pass : ∀ {b : Addr} {x : HO}, H1 b = some x → x ≠ .lst [] → x ≠ TItO t it → b ≠ q ∧ b ≠ it := fun {b x} e n1 n2 =>
        ⟨fun z => by rw [z, hq1] at e; exact n1 (Option.some.inj e).symm, fun z => by rw [z, hi1] at e; exact n2 (Option.some.inj e).symm⟩
      refine (ok b o e).stay (fun b' u hb hu => ?_) (fun b' hb => ?_) fun b' ys hb => ?_
      · rcases hb with rfl | hb
        · exact k _ _ z y hu
        · obtain ⟨n1, n2⟩ := pass hb (fun z => nomatch z) (fun z => nomatch z)
          exact k _ _ n1 n2 hu
      · obtain ⟨n1, n2⟩ := pass hb (fun z => nomatch z) (fun z => nomatch z)
        rw [upd_ne n1, ItX.dropH_ne n2]; exact hb
      · obtain ⟨n1, n2⟩ := pass hb (fun z => nomatch z) (fun z => nomatch z)
        rw [upd_ne n1, ItX.dropH_ne n2]; exact hb
end
end Pd
set_option Elab.async false
set_option linter.all false
set_option maxRecDepth 100000
set_option maxHeartbeats 2000000
namespace Pd
open PySem PySem.Spec PyProof.Rows L2
section
variable {X : Cx} {pins : List (Addr × Obj)} {σ : L2.St} {H : Hp} {s : Shared} {C fi fl : Addr}
variable {n : Nat} {fdI fdL : FuncData} {psI psL : List Str} {f : Str} {WL : DC} {A1 : Around} {q a : Addr}
/-- the walk fills the list -/
theorem fill_T {Rs : Result → Shared → Prop} {H1 : Hp} {s2 s3 : Shared} {it t : Addr} {xs : List V} {its : List Value} {c : Nat} (hh : A1.handled = none) (I : Inv X pins σ H s) (hq : H q = some (.lst [])) (hn : s.heap.get? it = none) (ho : s2.os = s.os) (u : Un (frs X.stack) [] H H1 s.heap s2.heap) (hok : HOk X.prog X.w H1 s2.heap) (hg : AllBare s2.gens)
    (hq1 : H1 q = some (.lst [])) (hi1 : H1 it = some (TItO t it)) (hv : Vals xs its) (hz : xs.length ≤ sizeLine) (ht : IsTup s2.heap t its.toArray) (hne : t ≠ it) (hqt : q ≠ t)
    (k3 : ∀ b o, b ≠ q → s2.heap.get? b = some o → s3.heap.get? b = some o) (g3 : s3.heap.get? q = some { cls := .type "list", data := .seq (#[] : Array Value) c }) (o3 : s3.os = s2.os) (e3 : s3.gens = s2.gens)
    (fin : ∀ s', Inv X pins σ (upd (ItX.dropH H1 it) q (.lst xs)) s' → Rs (.ok (.ret .none)) s') :
    codeAny (model X.prog X.w) A1 (.builtin "list.extend.loop" ⟨[.ref q, .ref it, .none], []⟩) Rs s3 := by
  have hqi : q ≠ it := ne_of hq1 hi1 (fun z => nomatch z)
  have hit := (hok it _ hi1).1
  have hit3 : s3.heap.IsTupleIter it t 0 := hit.at fun o e => k3 _ _ hqi.symm e
  have ht3 : s3.heap.IsTuple t its.toArray := (isT ht).at fun o e => k3 _ _ hqt.symm e
  have W := (Walks.tuple (prog := X.prog) (w := X.w) (A := A1.in1) (show A1.in1.handled = none from hh) it t hne its.toArray).toS
  have hsz : its.toArray.size ≤ sizeLine := by rw [List.size_toArray, ← hv.length]; exact hz
  refine PySem.codeAny_extend_loopS W hsz q (by simp only [List.mem_cons, List.not_mem_nil, or_false, not_or]; exact ⟨hqi, hqt⟩) _ its.toArray.size 0 _ _ _ rfl (Nat.zero_le _) ⟨hit3, ht3⟩ g3 (ItemsOf.nil _) fun s' acc' c' hm hS' hacc => ?_
  have ea : acc' = its.toArray := by
    refine Array.ext_getElem? fun i => ?_
    by_cases hi : i < acc'.size
    · have := hacc.2 i acc'[i] (Array.getElem?_eq_getElem hi)
      rw [Array.getElem?_eq_getElem hi, this]
    · rw [Array.getElem?_eq_none (by omega), Array.getElem?_eq_none (by rw [← hacc.1]; omega)]
  subst ea
  have kk : ∀ b o, b ≠ q → b ≠ it → s2.heap.get? b = some o → s'.heap.get? b = some o := fun b o h1 h2 e => hm.heap b o (by simp only [List.mem_cons, List.not_mem_nil, or_false, not_or]; exact ⟨h1, h2⟩) (k3 b o h1 e)
  refine fin s' (I.call' (hm.os.trans (o3.trans ho)) (un_list u hn hq hq1 hi1 kk ⟨_, hS'⟩) (hok_list hok hq1 hi1 kk hv hz hS') ?_ fun b hb => nomatch hb)
  have eg : s'.gens = s3.gens := hm.gens
  rw [eg, e3]; exact hg
theorem own_extendT {Rz : Result → Shared → Prop} {dx t : Addr} {fs : List (Str × V)} {xs : List V} (sb : Sub X (n + 1) A1.in1) (hc : IterC X.K C fi fl)
    (FI : FnOk X.prog X.w X.K X.mg X.base CX0 n fi fdI psI (spIt X.K C f)) (bI : Binds X.K fdI psI []) (FL : FnOk X.prog X.w X.K X.mg X.base CX0 n fl fdL psL (spD 1 WL X.K)) (bL : Binds X.K fdL psL [])
    (I : Inv X pins σ H s) (ha : H a = some (.ins C dx fs)) (hf : fs.lookup f = some (.ref t)) (ht : SqT X.K H t xs) (hq : H q = some (.lst []))
    (hl : ∀ it, H it = none → spD 1 WL X.K [.ref a] (upd H it (TItO t it)) (fun z H1 => ∃ i : Int, z = .int i ∧ (0 ≤ i ∧ i < 16777216) ∧ SqT X.K H1 t xs ∧ H1 q = some (.lst []) ∧ H1 it = some (TItO t it) ∧
      ∀ s', Inv X pins σ (upd (ItX.dropH H1 it) q (.lst xs)) s' → Rz (.ok (.ret .none)) s') E0) :
    wpAny (model X.prog X.w) A1.in1 (Builtin.List.listExtendWith (.ref q) (.ref a) .none)
      (fun fin s' => match fin with | .done f => Rz (.ok f) s' | .again c' => c'.quiet = true ∧ codeAny (model X.prog X.w) A1 c' Rz s') (fun e s' => Rz (.error e) s') s := by
  have hqa : q ≠ a := ne_of hq ha (by intro z; cases z)
  have hh : A1.handled = none := sb.room.hd
  obtain ⟨_, Z, _⟩ := ins_get I.hok ha
  obtain ⟨_, Z, _⟩ := Z.look
  obtain ⟨m0, hF⟩ := I.fr
  unfold Builtin.List.listExtendWith
  refine wpAny_bind (Z.type.here ?_)
  have other : (Builtin.List.listSameRef (.ref q) (.ref a) || Value.ref C == Value.type "list" || Value.ref C == Value.type "tuple") = false := by
    rw [show Builtin.List.listSameRef (.ref q) (.ref a) = false by simp [Builtin.List.listSameRef, hqa]]; rfl
  rw [if_neg (by rw [other]; exact Bool.false_ne_true)]
  refine wpAny_bind (PySem.W.owit_iter hF I.ok.mod.kin Z hc.it hc.itF ?_)
  have hspI : spIt X.K C f [.ref a] H (fun v H' => ∃ it, v = .ref it ∧ H it = none ∧ H' = upd H it (TItO t it)) E0 := ⟨a, dx, fs, t, xs, rfl, ha, hf, ht, fun it hit => ⟨it, rfl, hit, rfl⟩⟩
  have hlI := FI.len _ _ _ _ hspI
  have rva : Vals [V.ref a] [Value.ref a] := .cons rfl .nil
  have en : ∀ {A : Around} {s : Shared} {pins : List (Addr × Obj)} {H : Hp}, A.frames = X.A.frames → Inv X pins σ H s → Env0 X.prog X.w X.K X.mg X.base A X.stack s H := fun hA I => by
    have e := I.env0
    exact ⟨by rw [hA]; exact e.frames, e.mod, e.bs, e.bsz, e.funs, e.frf, e.hok, e.bare⟩
  refine wpAny_call (codeAny_mono (FI.run A1.in1 X.stack s H ⟨[.ref a], []⟩ [.ref a] [.ref a] _ E0 (sb.room.mono (Nat.le_succ _)) (en sb.fr I) (by
    have := bI s [.ref a] I.kIn (by simpa using hlI)
    simpa using this) rva hspI) fun r s' hq' => ?_)
  cases r with
  | error e => exact False.elim hq'
  | ok fl0 =>
    cases fl0 with
    | next => exact False.elim hq'
    | brk => exact False.elim hq'
    | cont => exact False.elim hq'
    | ret u =>
      obtain ⟨v, H', os1, bare1, u1, hok1, rv, it, ev, hit, eH⟩ := hq'
      subst ev
      subst eH
      cases (show u = Value.ref it from rv)
      have hi1 : upd H it (TItO t it) it = some (TItO t it) := upd_same
      have hit1 := (hok1 it _ hi1).1
      have hn : s.heap.get? it = none := by
        cases e : s.heap.get? it with
        | none => rfl
        | some o => have := u1.free it o e hit (fun z => nomatch z); rw [hi1] at this; cases this
      have I1 : Inv X pins σ (upd H it (TItO t it)) s' := I.call' os1 u1 hok1 bare1 fun b hb => nomatch hb
      refine wpAny_specialOf hit1.typeIs F.slot_tuple_iterator_next.lookup ?_
      have ha1 : upd H it (TItO t it) a = some (.ins C dx fs) := by rw [upd_ne (ne_of_none ha hit)]; exact ha
      obtain ⟨_, Z', _⟩ := ins_get I1.hok ha1
      obtain ⟨_, Z', _⟩ := Z'.look
      obtain ⟨m1, hF'⟩ := I1.fr
      have hsp := hl it hit
      have hlL := FL.len _ _ _ _ hsp
      refine wpAny_bind (wpAny_holding (own_hintL hc hF' I1.ok.mod.kin Z' (wpAny_call (codeAny_mono (FL.run A1.in1.in1 X.stack s' _ ⟨[.ref a], []⟩ [.ref a] [.ref a] _ E0 sb.room.in1 (en (show A1.in1.in1.frames = X.A.frames from sb.fr) I1) (by
        have := bL s' [.ref a] I1.kIn (by simpa using hlL)
        simpa using this) rva hsp) fun r2 s2 hq2 => ?_))))
      cases r2 with
      | error e => exact False.elim hq2
      | ok fl1 =>
        cases fl1 with
        | next => exact False.elim hq2
        | brk => exact False.elim hq2
        | cont => exact False.elim hq2
        | ret u2 =>
          obtain ⟨z, H1, os2, bare2, un2, hok2, rz, i, ez, hi, ht1, hq1, hI1, fin⟩ := hq2
          subst ez
          obtain ⟨tk, rfl⟩ := (show ∃ t, u2 = Value.int i t from rz)
          refine ⟨⟨hi.1, Int.lt_trans hi.2 (by decide)⟩, i, _, rfl, hi.1, hi.2, fun b => ?_⟩
          have I2 : Inv X pins σ H1 s2 := I1.call' os2 un2 hok2 bare2 fun b hb => nomatch hb
          obtain ⟨its, rv3, pl, hz⟩ := I2.tuple ht1
          obtain ⟨_, itq, cq, rq, eq⟩ := hok2 q _ hq1
          cases rq
          have hitI := (hok2 it _ hI1).1
          have hne2 : t ≠ it := fun z => by
            subst z
            obtain ⟨o1, e1, c1, _⟩ := pl
            obtain ⟨o2, e2, c2, _⟩ := hitI
            rw [e1] at e2; cases e2
            rw [c1] at c2; injection c2 with c3; exact absurd c3 (by decide)
          have hqt : q ≠ t := fun z => by
            subst z
            obtain ⟨o1, e1, c1, _⟩ := pl
            rw [eq] at e1; cases e1
            injection c1 with c3; exact absurd c3 (by decide)
          refine wpAny_ite_split (fun _ => ?_) (fun _ => wpAny_pure ⟨plainId_quiet PySem.F.plain_extend_loop _, fill_T (s2 := s2) (c := cq) hh I hq hn (os2.trans os1) (u1.trans un2) hok2 bare2 hq1 hI1 rv3 hz pl hne2 hqt (fun _ _ _ e => e) eq rfl rfl fin⟩)
          refine wpAny_bind (wpAny_rule ?_)
          refine wpAny_bind ?_
          show wpAny _ _ (updateSeq q (·.push .none) >>= fun _ => updateSeq q (·.pop)) _ _ _
          refine wpAny_bind (wpAny_updateSeq eq rfl ?_)
          have e4 := PySem.IsL.update eq (·.push Value.none)
          refine wpAny_updateSeq e4 rfl ?_ (by show 1 ≤ sizeLine; rw [sizeLine_eq]; decide) (by show 0 ≤ sizeLine + 1; exact Nat.zero_le _)
          have e5 := PySem.IsL.update e4 (·.pop)
          refine wpAny_pure ⟨plainId_quiet PySem.F.plain_extend_loop _, fill_T (s2 := s2) hh I hq hn (os2.trans os1) (u1.trans un2) hok2 bare2 hq1 hI1 rv3 hz pl hne2 hqt (fun b o hb e => ?_) e5 rfl rfl fin⟩
          exact (Heap.get?_update_other _ _ (Ne.symm hb)).trans ((Heap.get?_update_other _ _ (Ne.symm hb)).trans e)
end
end Pd
set_option Elab.async false
set_option linter.all false
set_option maxRecDepth 100000
set_option maxHeartbeats 3000000
namespace Pd
open PySem PySem.Spec PyProof.Rows L2
/-- list(o): the tuple of the field f, as a list; WL: what its length promises -/
def rListOwn (K : PySem.W.Frag) (C : Addr) (f : Str) (WL : DC) : List V → Hp → VK → Prop := fun xs H Q => ∃ (a dx : Addr) (fs : List (Str × V)) (t : Addr) (vs : List V), xs = [.ref a] ∧ H a = some (.ins C dx fs) ∧ fs.lookup f = some (.ref t) ∧ SqT K H t vs ∧
  ∀ it q, H it = none → H q = none → it ≠ q → spD 1 WL K xs (upd (upd H q (.lst [])) it (TItO t it)) (fun z H1 => ∃ i : Int, z = .int i ∧ (0 ≤ i ∧ i < 16777216) ∧ SqT K H1 t vs ∧ H1 q = some (.lst []) ∧ H1 it = some (TItO t it) ∧ Q (.ref q) (upd (ItX.dropH H1 it) q (.lst vs))) E0
section
variable {X : Cx} {C fi fl : Addr} {n : Nat} {fdI fdL : FuncData} {psI psL : List Str} {f : Str} {WL : DC}
theorem sq_up {K : PySem.W.Frag} {H : Hp} {t q : Addr} {vs : List V} {o : HO} (h : SqT K H t vs) (n : H q = none) : SqT K (upd H q o) t vs := ex_t (Ex.new n) h
theorem call_listOwnT (hc : IterC X.K C fi fl) (FI : FnOk X.prog X.w X.K X.mg X.base CX0 n fi fdI psI (spIt X.K C f)) (bI : Binds X.K fdI psI [])
    (FL : FnOk X.prog X.w X.K X.mg X.base CX0 n fl fdL psL (spD 1 WL X.K)) (bL : Binds X.K fdL psL []) (hr : Room (n + 3) X.A) : CallR X (.type "list") (rListOwn X.K C f WL) := by
  intro pins s σ H xs us Q I rv h
  obtain ⟨a, dx, fs, t, vs, rfl, ha, hf, ht, hl⟩ := h
  obtain rfl := Vals.ref1 rv
  have sb : Sub X (n + 1) X.A.in1.in1 := (Sub.in1 (Sub.in1 (⟨hr, rfl⟩ : Sub X (n + 3) X.A)))
  let q := s.heap.objs.size
  let s1 : Shared := { s with heap := s.heap.push { cls := .type "list", data := .seq #[] } }
  have gq : s1.heap.get? q = some { cls := .type "list", data := .seq #[] } := Heap.get?_push_size _ rfl
  refine callType_codes (Q₁ := fun v s' => v = .ref q ∧ s' = s1) PySem.F.called_list (PySem.F.typeCall_list_1 _) PySem.F.entry_list_init (code_list_new _ ⟨rfl, rfl⟩) fun v s' hv => ?_
  obtain ⟨rfl, rfl⟩ := hv
  refine ⟨⟨_, gq, rfl⟩, PySem.F.args_list_init_2 _ _, ?_⟩
  have nq : H q = none := I.hok.fresh (Nat.le_refl _)
  have I1 : Inv X pins σ (upd H q (.lst [])) s1 := I.lnew (its := []) (t' := s.toks) .nil (Nat.zero_le _)
  show wpAny _ _ (do let old ← Builtin.List.listItems (.ref q); Builtin.List.listUpdate (.ref q) (fun _ => #[]); letGo old.toList.reverse; Builtin.List.listExtendWith (.ref q) (.ref a) .none) _ _ _
  refine wpAny_bind ?_
  unfold Builtin.List.listItems
  refine wpAny_bind (wpAny_seqItems gq rfl (wpAny_pure ?_))
  show wpAny _ _ (updateSeq q (fun _ => #[]) >>= fun _ => letGo (#[] : Array Value).toList.reverse >>= fun _ => Builtin.List.listExtendWith (.ref q) (.ref a) .none) _ _ _
  refine wpAny_bind (wpAny_updateSeq gq rfl ?_)
  have I2 := I1.lset (f := fun _ => #[]) (its := []) (its' := []) (ys := []) (t' := s.toks) upd_same gq rfl .nil (Nat.zero_le _)
  rw [upd_upd] at I2
  refine wpAny_bind (wpAny_letGo ?_)
  have ha2 : upd H q (.lst []) a = some (.ins C dx fs) := by rw [upd_ne (ne_of_none ha nq)]; exact ha
  refine own_extendT (A1 := X.A.in1) (Rz := wants (fun r s₂ => r = .none ∧ EP X pins σ Q (.ref q) s₂) X.xe) sb hc FI bI FL bL I2 ha2 hf (sq_up ht nq) upd_same fun it hit => ?_
  have hqi : it ≠ q := fun z => by rw [z, upd_same] at hit; cases hit
  rw [upd_ne hqi] at hit
  obtain ⟨hl1, as, M, L, ds, P, r, A0, hw, k⟩ := hl it q hit nq hqi
  refine ⟨hl1, as, M, L, ds, P, r, A0, hw, fun v d L' H' M' s' A' p r' => ?_⟩
  obtain ⟨i, ei, hi, h1, h2, h3, q4⟩ := k v d L' H' M' s' A' p r'
  exact ⟨i, ei, hi, h1, h2, h3, fun s' I' => ⟨rfl, .ref q, _, I', rfl, q4⟩⟩
end
end Pd
set_option Elab.async false
set_option linter.all false
set_option maxRecDepth 100000
set_option maxHeartbeats 3000000
namespace Pd
open PySem PySem.Spec PyProof.Rows L2
/-- a new thing that nothing is known of -/
theorem At.hide {K : PySem.W.Frag} {as : List Addr} {M : Ms} {L H : Hp} {p : Addr} {o : HO} (A : At K as M L H) (hp : H p = none) : At K as M L (upd H p o) := by
  refine ⟨fun a u h => ?_, A.len, A.nd, fun k a m h1 h2 => ?_, A.nt⟩
  · have h' := A.low a u h
    rw [upd_ne (ne_of_none h' hp)]; exact h'
  · obtain ⟨h3, o', h4, h5⟩ := A.mo k a m h1 h2
    exact ⟨h3, o', by rw [upd_ne (ne_of_none h4 hp)]; exact h4, h5.1, h5.2.keep (KeepC.new hp)⟩
theorem At.free {K : PySem.W.Frag} {as : List Addr} {M : Ms} {L H : Hp} {p : Addr} (A : At K as M L H) (hp : H p = none) : L p = none ∧ p ∉ as := by
  refine ⟨?_, fun z => (A.held z).2 hp⟩
  cases e : L p with
  | none => rfl
  | some o => rw [A.low p o e] at hp; cases hp
@[simp] def oListOwn (C : Addr) (f : Str) (WL : DC) : DC := fun xs M P => ∃ gs ds, xs = [.ins C gs] ∧ gs.lookup f = some (.tup ds) ∧ WL xs M fun z M' => ∃ i : Int, z = .int i ∧ (0 ≤ i ∧ i < 16777216) ∧ P (.lst ds) M'
theorem sc_listOwnT {K : PySem.W.Frag} {C : Addr} {f : Str} {WL : DC} : SimC K (rListOwn K C f WL) (oListOwn C f WL) := by
  intro as L H M xs ds P Q A r ⟨gs, es, h, hf, p⟩ q
  subst h
  have r0 := r
  cases r with
  | cons r1 r2 =>
    cases r2
    cases r1 with
    | ins g1 rf =>
      obtain ⟨v, hv, rv⟩ := rf.look hf
      cases rv with
      | tup hsq rA =>
        rename_i a dx fs t vs
        refine ⟨a, dx, fs, t, vs, rfl, A.low _ _ g1, hv, ex_t A.low hsq, fun it q0 hit hq hne => ?_⟩
        have hit2 : upd H q0 (.lst []) it = none := by rw [upd_ne hne]; exact hit
        obtain ⟨Lit, nit⟩ := A.free hit
        obtain ⟨Lq, nq⟩ := A.free hq
        have A2 := (A.hide (o := .lst []) hq).hide (o := TItO t it) hit2
        have gi : upd (upd H q0 (.lst [])) it (TItO t it) it = some (TItO t it) := upd_same
        have gq : upd (upd H q0 (.lst [])) it (TItO t it) q0 = some (.lst []) := by rw [upd_ne hne.symm, upd_same]
        refine sp_of A2 r0 rfl p fun v z L' H' M' s' A' h' rr => ?_
        obtain ⟨i, rfl, hi, p2⟩ := h'
        cases rr
        have hi' := s'.up it _ nit gi
        have hq' := s'.up q0 _ nq gq
        have Lit' := s'.hid it Lit (by rw [gi]; exact fun z => nomatch z)
        have Lq' := s'.hid q0 Lq (by rw [gq]; exact fun z => nomatch z)
        refine ⟨i, rfl, hi, ex_t A'.low (ex_t s'.k hsq), hq', hi', ?_⟩
        refine q (.ref q0) (.lst es) (upd L' q0 (.lst vs)) _ M' ⟨fun b o hb e => ?_, s'.k.trans (Ex.new Lq'), fun b e e' => ?_, Pre.refl _, fun _ h => .inl h⟩ ⟨fun b o e => ?_, A'.len, A'.nd, fun k b m e1 e2 => ?_, A'.nt.new fun ps z => nomatch z⟩ p2 (.lst (.inl (.inl upd_same)) (rA.mono (s'.k.trans (Ex.new Lq')) (Pre.refl _)))
        · have b1 := ne_of_none e hit
          have b2 := ne_of_none e hq
          rw [upd_ne b2, ItX.dropH_ne b1]
          exact s'.up b o hb (by rw [upd_ne b1, upd_ne b2]; exact e)
        · have b2 : b ≠ q0 := fun z => e' (by rw [z]; exact hq)
          have b1 : b ≠ it := fun z => e' (by rw [z]; exact hit)
          rw [upd_ne b2]
          exact s'.hid b e (by rw [upd_ne b1, upd_ne b2]; exact e')
        · by_cases z : b = q0
          · subst z; rw [upd_same] at e ⊢; exact e
          · rw [upd_ne z] at e ⊢
            rw [ItX.dropH_ne (fun y => by rw [y, Lit'] at e; cases e)]
            exact A'.low b o e
        · obtain ⟨h3, o', h4, h5, h6⟩ := A'.mo k b m e1 e2
          have hb := List.mem_of_getElem? e1
          have b2 : b ≠ q0 := fun z => nq (z ▸ hb)
          have b1 : b ≠ it := fun z => nit (z ▸ hb)
          refine ⟨by rw [upd_ne b2]; exact h3, o', by rw [upd_ne b2, ItX.dropH_ne b1]; exact h4, h5.mono (Ex.new Lq') (Pre.refl _), h6.keep fun c qn e => ?_⟩
          have c2 : c ≠ q0 := fun z => by rw [z, hq'] at e; cases e
          have c1 : c ≠ it := fun z => by rw [z, hi'] at e; exact tit_ne t it qn (Option.some.inj e)
          rw [upd_ne c2, ItX.dropH_ne c1]; exact e
end Pd
namespace Spc
open Pd
theorem gtR_eq : ∀ x y : Rw, gtR x y = decide (y < x)
  | [], y => by
    have : ¬ (y < ([] : List Int)) := List.not_lt_nil y
    simp [gtR, this]
  | a :: x, [] => by
    have : ([] : List Int) < a :: x := List.nil_lt_cons a x
    simp [gtR, this]
  | a :: x, b :: y => by
    have ih := gtR_eq x y
    have e : (b :: y < a :: x) ↔ b < a ∨ b = a ∧ y < x := List.cons_lt_cons_iff
    unfold gtR
    by_cases h : a = b
    · subst h
      rw [if_pos rfl, ih]
      simp [e]
    · rw [if_neg h]
      have h' : ¬ b = a := fun z => h z.symm
      simp [e, h']
theorem leD_total (a b : Rw) : (leD a b || leD b a) = true := by
  unfold leD
  by_cases h : a < b
  · have : ¬ b < a := List.lt_asymm h
    simp [this]
  · simp [h]
theorem leD_trans (a b c : Rw) (h1 : leD a b = true) (h2 : leD b c = true) : leD a c = true := by
  unfold leD at *
  simp at *
  exact List.le_trans h2 h1
theorem leD_anti (a b : Rw) (h1 : leD a b = true) (h2 : leD b a = true) : a = b := by
  unfold leD at *
  simp at *
  exact List.le_antisymm h2 h1
theorem insD_perm (x : Rw) : ∀ l, (insD x l).Perm (x :: l)
  | [] => List.Perm.refl _
  | y :: l => by
    unfold insD
    split
    · exact ((insD_perm x l).cons y).trans (List.Perm.swap x y l)
    · exact List.Perm.refl _
theorem srtD_perm : ∀ l, (srtD l).Perm l
  | [] => List.Perm.refl _
  | x :: l => (insD_perm x _).trans ((srtD_perm l).cons x)
theorem insD_sorted (x : Rw) : ∀ l, l.Pairwise (fun a b => leD a b = true) → (insD x l).Pairwise fun a b => leD a b = true
  | [], _ => List.pairwise_singleton _ _
  | y :: l, h => by
    obtain ⟨h1, h2⟩ := List.pairwise_cons.mp h
    unfold insD
    by_cases e : gtR y x = true
    · rw [if_pos e]
      have hyx : leD y x = true := by
        rw [gtR_eq] at e
        have := of_decide_eq_true e
        unfold leD
        have h3 : ¬ y < x := List.lt_asymm this
        simp [h3]
      refine List.pairwise_cons.mpr ⟨fun z hz => ?_, insD_sorted x l h2⟩
      rcases List.mem_cons.mp ((insD_perm x l).mem_iff.mp hz) with rfl | hz
      · exact hyx
      · exact h1 z hz
    · rw [if_neg e]
      have hxy : leD x y = true := by
        rw [gtR_eq] at e
        unfold leD
        simpa using e
      exact List.pairwise_cons.mpr ⟨fun z hz => by
        rcases List.mem_cons.mp hz with rfl | hz
        · exact hxy
        · exact leD_trans _ _ _ hxy (h1 z hz), h⟩
theorem srtD_sorted : ∀ l, (srtD l).Pairwise fun a b => leD a b = true
  | [] => List.Pairwise.nil
  | x :: l => insD_sorted x _ (srtD_sorted l)
theorem sort_eq (l : List Rw) : l.mergeSort leD = srtD l :=
  List.Perm.eq_of_pairwise (fun a b _ _ => leD_anti a b) (List.pairwise_mergeSort leD_trans leD_total l) (srtD_sorted l) ((List.mergeSort_perm l leD).trans (srtD_perm l).symm)
theorem mem_allD {p : Int} (hp : 0 ≤ p) : ∀ {n : Nat} {y : Rw}, y.length = n → (∀ x ∈ y, 0 ≤ x ∧ x < p) → y ∈ allD p n
  | 0, y, hl, _ => by rw [List.length_eq_zero_iff.mp hl]; exact List.mem_singleton.mpr rfl
  | n + 1, y, hl, h => by
    have hne : y ≠ [] := fun z => by rw [z] at hl; cases hl
    have e := List.dropLast_concat_getLast hne
    rw [← e]
    refine List.mem_flatMap.mpr ⟨y.dropLast, mem_allD hp (by rw [List.length_dropLast, hl]; rfl) (fun x hx => h x ((List.dropLast_sublist y).subset hx)), List.mem_map.mpr ⟨y.getLast hne, ?_, rfl⟩⟩
    have := h _ (List.getLast_mem hne)
    refine List.mem_map.mpr ⟨(y.getLast hne).toNat, List.mem_range.mpr (by omega), by omega⟩
theorem allD_mem {p : Int} : ∀ {n : Nat} {y : Rw}, y ∈ allD p n → y.length = n ∧ ∀ x ∈ y, 0 ≤ x ∧ x < p
  | 0, y, h => by rw [List.mem_singleton.mp h]; exact ⟨rfl, fun _ z => nomatch z⟩
  | n + 1, y, h => by
    obtain ⟨d, hd, hy⟩ := List.mem_flatMap.mp h
    obtain ⟨v, hv, rfl⟩ := List.mem_map.mp hy
    obtain ⟨k, hk, rfl⟩ := List.mem_map.mp hv
    obtain ⟨h1, h2⟩ := allD_mem hd
    refine ⟨by rw [List.length_append, h1]; rfl, fun x hx => ?_⟩
    rcases List.mem_append.mp hx with hx | hx
    · exact h2 x hx
    · rw [List.mem_singleton.mp hx]; have := List.mem_range.mp hk; omega
end Spc
set_option Elab.async false
set_option linter.all false
namespace Spc
def InP (p : Int) (r : Rw) : Prop := ∀ x ∈ r, 0 ≤ x ∧ x < p
theorem at_lt {r : Rw} {i : Nat} (h : i < r.length) : at_ r i = r[i] := by
  unfold at_; rw [List.getD_eq_getElem?_getD, List.getElem?_eq_getElem h]; rfl
theorem at_ge {r : Rw} {i : Nat} (h : r.length ≤ i) : at_ r i = 0 := by
  unfold at_; rw [List.getD_eq_getElem?_getD, List.getElem?_eq_none h]; rfl
theorem InP.at {p : Int} {r : Rw} (h : InP p r) (hp : 0 < p) (i : Nat) : 0 ≤ at_ r i ∧ at_ r i < p := by
  by_cases c : i < r.length
  · rw [at_lt c]; exact h _ (List.getElem_mem c)
  · rw [at_ge (by omega)]; exact ⟨Int.le_refl _, hp⟩
theorem mn_len {p t : Int} {a b : Rw} (h : a.length = b.length) : (mn p a b t).length = a.length := by
  unfold mn; rw [List.length_zipWith]; omega
theorem at_mn {p t : Int} {a b : Rw} (h : a.length = b.length) (i : Nat) : at_ (mn p a b t) i = (at_ a i - t * at_ b i) % p := by
  by_cases c : i < a.length
  · have c2 : i < b.length := by omega
    have c3 : i < (mn p a b t).length := by rw [mn_len h]; exact c
    rw [at_lt c3, at_lt c, at_lt c2]
    exact List.getElem_zipWith
  · rw [at_ge (by rw [mn_len h]; omega), at_ge (by omega), at_ge (by omega)]
    simp
theorem mn_in {p t : Int} {a b : Rw} (hp : 0 < p) : InP p (mn p a b t) := by
  intro x hx
  unfold mn at hx
  obtain ⟨i, hi, rfl⟩ := List.mem_iff_getElem.mp hx
  rw [List.getElem_zipWith]
  exact ⟨Int.emod_nonneg _ (by omega), Int.emod_lt_of_pos _ hp⟩
theorem row_ext {a b : Rw} (h : a.length = b.length) (he : ∀ i, i < a.length → at_ a i = at_ b i) : a = b := by
  refine List.ext_getElem h fun i h1 h2 => ?_
  have := he i h1
  rwa [at_lt h1, at_lt h2] at this
/-- what leads, and where -/
structure Led (W : Nat) (p : Int) (r : Rw) (k : Nat) : Prop where
  len : r.length = W
  inp : InP p r
  lt : k < W
  one : at_ r k = 1
  zer : ∀ j, j < k → at_ r j = 0
theorem Led.ld {W : Nat} {p : Int} {r : Rw} {k : Nat} (h : Led W p r k) : Spc.ld r = k := by
  have hk : k < r.length := by rw [h.len]; exact h.lt
  have h1 : r[k] = 1 := by rw [← at_lt hk]; exact h.one
  unfold Spc.ld
  have hm : (1 : Int) ∈ r := by rw [← h1]; exact List.getElem_mem hk
  have hi : r.idxOf 1 < r.length := List.idxOf_lt_length_iff.mpr hm
  have h2 : r[r.idxOf 1] = 1 := List.getElem_idxOf hi
  rcases Nat.lt_trichotomy (r.idxOf 1) k with c | c | c
  · have := h.zer _ c
    rw [at_lt hi, h2] at this
    omega
  · exact c
  · exact absurd h1 (List.not_of_lt_findIdx (p := (· == 1)) c |> fun z => by simpa using z)
structure Rref (W : Nat) (p : Int) (R : List Rw) : Prop where
  led : ∀ r ∈ R, Led W p r (Spc.ld r)
  pw : R.Pairwise fun r s => at_ s (Spc.ld r) = 0 ∧ at_ r (Spc.ld s) = 0
theorem rmd_len {W : Nat} {p : Int} : ∀ {R : List Rw} {y : Rw}, (∀ r ∈ R, r.length = W) → y.length = W → (rmd p R y).length = W
  | [], _, _, h => h
  | l :: R, y, hR, h => rmd_len (R := R) (fun r hr => hR r (List.mem_cons_of_mem _ hr)) (by rw [mn_len (by rw [h, hR l List.mem_cons_self]), h])
theorem rmd_in {p : Int} (hp : 0 < p) : ∀ {R : List Rw} {y : Rw}, InP p y → InP p (rmd p R y)
  | [], _, h => h
  | l :: R, y, _ => rmd_in hp (R := R) (mn_in hp)
/-- a place where all rows are 0 stays -/
theorem rmd_stay {W : Nat} {p : Int} (hp : 0 < p) {i : Nat} : ∀ {R : List Rw} {y : Rw}, (∀ r ∈ R, r.length = W ∧ at_ r i = 0) → y.length = W → InP p y → at_ (rmd p R y) i = at_ y i
  | [], _, _, _, _ => rfl
  | l :: R, y, hR, h, hi => by
    obtain ⟨h1, h2⟩ := hR l List.mem_cons_self
    show at_ (rmd p R (mn p y l _)) i = _
    rw [rmd_stay hp (R := R) (fun r hr => hR r (List.mem_cons_of_mem _ hr)) (by rw [mn_len (by rw [h, h1]), h]) (mn_in hp), at_mn (by rw [h, h1]), h2, Int.mul_zero, Int.sub_zero]
    have := hi.at hp i
    exact Int.emod_eq_of_lt this.1 this.2
theorem rmd_zero {W : Nat} {p : Int} (hp : 0 < p) : ∀ {R : List Rw} {y : Rw}, Rref W p R → y.length = W → ∀ r ∈ R, at_ (rmd p R y) (Spc.ld r) = 0
  | [], _, _, _, r, hr => by cases hr
  | l :: R, y, hR, h, r, hr => by
    obtain ⟨p1, p2⟩ := List.pairwise_cons.mp hR.pw
    have hl := hR.led l List.mem_cons_self
    have hlen : (mn p y l (at_ y (Spc.ld l))).length = W := by rw [mn_len (by rw [h, hl.len]), h]
    have hR2 : Rref W p R := ⟨fun s hs => hR.led s (List.mem_cons_of_mem _ hs), p2⟩
    show at_ (rmd p R (mn p y l (at_ y (Spc.ld l)))) (Spc.ld r) = 0
    rcases List.mem_cons.mp hr with rfl | hr
    · rw [rmd_stay hp (R := R) (fun s hs => ⟨(hR2.led s hs).len, (p1 s hs).1⟩) hlen (mn_in hp), at_mn (by rw [h, hl.len]), hl.one, Int.mul_one, Int.sub_self]
      simp
    · exact rmd_zero hp hR2 hlen r hr
theorem nz_at {r : Rw} (h : nz r = true) : ∃ i, i < r.length ∧ at_ r i ≠ 0 := by
  obtain ⟨x, hx, hn⟩ := List.any_eq_true.mp h
  obtain ⟨i, hi, rfl⟩ := List.mem_iff_getElem.mp hx
  exact ⟨i, hi, by rw [at_lt hi]; simpa using hn⟩
theorem nz_not {r : Rw} (h : nz r = false) (i : Nat) : at_ r i = 0 := by
  by_cases c : i < r.length
  · rw [at_lt c]
    have := List.any_eq_false.mp h _ (List.getElem_mem c)
    simpa using this
  · exact at_ge (by omega)
/-- the first place that is not 0 -/
theorem first {r : Rw} : nz r = true → ∃ k, k < r.length ∧ at_ r k = fst1 r ∧ fst1 r ≠ 0 ∧ ∀ j, j < k → at_ r j = 0 := by
  induction r with
  | nil => intro h; cases h
  | cons a r ih =>
    intro h
    by_cases c : a = 0
    · subst c
      have h2 : nz r = true := h
      obtain ⟨k, h3, h4, h5, h6⟩ := ih h2
      have e : fst1 (0 :: r) = fst1 r := rfl
      refine ⟨k + 1, Nat.succ_lt_succ h3, ?_, ?_, fun j hj => ?_⟩
      · rw [e]; exact h4
      · rw [e]; exact h5
      · cases j with
        | zero => rfl
        | succ j => exact h6 j (by omega)
    · have e : fst1 (a :: r) = a := by
        unfold fst1
        rw [List.filter_cons_of_pos (by simpa using c)]; rfl
      exact ⟨0, Nat.succ_pos _, by rw [e]; rfl, by rw [e]; exact c, fun j hj => by cases hj⟩
def Invs (p : Int) : Prop := ∀ f : Int, 0 < f → f < p → ∃ k ∈ rngL p, k * f % p = 1
theorem inv_ok {p f : Int} (hI : Invs p) (h0 : 0 < f) (h1 : f < p) : f * inv1 p f % p = 1 ∧ 0 ≤ inv1 p f := by
  obtain ⟨k, hk, e⟩ := hI f h0 h1
  unfold inv1
  cases hc : (rngL p).filter fun k => k * f % p == 1 with
  | nil =>
    have : k ∈ (rngL p).filter fun k => k * f % p == 1 := List.mem_filter.mpr ⟨hk, by simpa using e⟩
    rw [hc] at this
    cases this
  | cons a l =>
    have : a ∈ (rngL p).filter fun k => k * f % p == 1 := by rw [hc]; exact List.mem_cons_self
    obtain ⟨h2, h3⟩ := List.mem_filter.mp this
    refine ⟨by show f * a % p = 1; rw [Int.mul_comm]; simpa using h3, ?_⟩
    obtain ⟨j, _, rfl⟩ := List.mem_map.mp h2
    exact Int.natCast_nonneg j
theorem led_len {p : Int} {r : Rw} : (Spc.led p r).length = r.length := by unfold Spc.led; rw [List.length_map]
theorem at_led {p : Int} {r : Rw} (i : Nat) : at_ (Spc.led p r) i = at_ r i * inv1 p (fst1 r) % p := by
  by_cases c : i < r.length
  · rw [at_lt (by rw [led_len]; exact c), at_lt c]
    unfold Spc.led
    rw [List.getElem_map]
  · rw [at_ge (by rw [led_len]; omega), at_ge (by omega)]
    simp
theorem led_led {W : Nat} {p : Int} {r : Rw} (hp : 0 < p) (hI : Invs p) (hl : r.length = W) (hi : InP p r) (h : nz r = true) : ∃ k, Led W p (Spc.led p r) k := by
  obtain ⟨k, h1, h2, h3, h4⟩ := first h
  have hb := hi.at hp k
  rw [h2] at hb
  refine ⟨k, by rw [led_len, hl], fun x hx => ?_, by omega, ?_, fun j hj => ?_⟩
  · unfold Spc.led at hx
    obtain ⟨a, _, rfl⟩ := List.mem_map.mp hx
    exact ⟨Int.emod_nonneg _ (by omega), Int.emod_lt_of_pos _ hp⟩
  · rw [at_led, h2]
    exact (inv_ok hI (by omega) hb.2).1
  · rw [at_led, h4 j hj, Int.zero_mul]
    simp
/-- one of the others, made 0 where the new row leads -/
theorem other_led {W : Nat} {p : Int} {l o : Rw} {k : Nat} (hp : 2 ≤ p) (hl : Led W p l k) (ho : Led W p o (Spc.ld o)) (h0 : at_ l (Spc.ld o) = 0) : Led W p (rmd p [l] o) (Spc.ld o) := by
  have e : rmd p [l] o = mn p o l (at_ o (Spc.ld l)) := rfl
  have hlk := hl.ld
  have hlen : o.length = l.length := by rw [ho.len, hl.len]
  rw [e]
  refine ⟨by rw [mn_len hlen, ho.len], mn_in (by omega), ho.lt, ?_, fun j hj => ?_⟩
  · rw [at_mn hlen, ho.one, h0, Int.mul_zero, Int.sub_zero]
    exact Int.emod_eq_of_lt (by decide) (by omega)
  · rw [at_mn hlen, ho.zer j hj, hlk]
    by_cases c : k < Spc.ld o
    · rw [ho.zer k c]; simp
    · have : j < k := by
        rcases Nat.lt_or_ge j k with h | h
        · exact h
        · omega
      rw [hl.zer j this]; simp
theorem Rref.perm {W : Nat} {p : Int} {R S : List Rw} (h : Rref W p R) (hp : S.Perm R) : Rref W p S :=
  ⟨fun r hr => h.led r (hp.mem_iff.mp hr), (hp.pairwise_iff (fun ⟨a, b⟩ => ⟨b, a⟩)).mpr h.pw⟩
theorem rref_step {W : Nat} {p : Int} {R : List Rw} {y : Rw} (hp : 2 ≤ p) (hI : Invs p) (h : Rref W p R) (hy : y.length = W) (hi : InP p y) : Rref W p (step p R y) := by
  unfold step
  by_cases c : nz (rmd p R y) = true
  · rw [if_pos c]
    have hz := rmd_zero (by omega) h hy
    have hlen := rmd_len (p := p) (R := R) (fun r hr => (h.led r hr).len) hy
    have hin := rmd_in (R := R) (y := y) (by omega : 0 < p) hi
    obtain ⟨k, hk⟩ := led_led (by omega) hI hlen hin c
    have hk0 : ∀ r ∈ R, at_ (Spc.led p (rmd p R y)) (Spc.ld r) = 0 := fun r hr => by rw [at_led, hz r hr, Int.zero_mul]; simp
    generalize Spc.led p (rmd p R y) = l at hk hk0 ⊢
    refine Rref.perm ?_ (srtD_perm _)
    have hlk := hk.ld
    have hol : ∀ o ∈ R, Led W p (rmd p [l] o) (Spc.ld o) := fun o ho => other_led hp hk (h.led o ho) (hk0 o ho)
    have hold : ∀ o ∈ R, Spc.ld (rmd p [l] o) = Spc.ld o := fun o ho => (hol o ho).ld
    have hat : ∀ o ∈ R, ∀ i, at_ (rmd p [l] o) i = (at_ o i - at_ o k * at_ l i) % p := fun o ho i => by
      show at_ (mn p o l (at_ o (Spc.ld l))) i = _
      rw [at_mn (by rw [(h.led o ho).len, hk.len]), hlk]
    refine ⟨fun r hr => ?_, List.pairwise_cons.mpr ⟨fun s hs => ?_, ?_⟩⟩
    · rcases List.mem_cons.mp hr with rfl | hr
      · rw [hlk]; exact hk
      · obtain ⟨o, ho, rfl⟩ := List.mem_map.mp hr
        rw [hold o ho]; exact hol o ho
    · obtain ⟨o, ho, rfl⟩ := List.mem_map.mp hs
      rw [hold o ho, hlk]
      refine ⟨?_, hk0 o ho⟩
      rw [hat o ho, hk.one, Int.mul_one, Int.sub_self]; simp
    · rw [List.pairwise_map]
      refine h.pw.imp_of_mem fun {a b} ha hb hab => ?_
      rw [hold a ha, hold b hb, hat b hb, hat a ha, hab.1, hab.2, hk0 a ha, hk0 b hb]
      simp
  · rw [if_neg c]; exact h
end Spc
set_option Elab.async false
set_option linter.all false
namespace Spc
theorem dvd_sum {p : Int} {α : Type} (F : α → Int) : ∀ J : List α, (∀ j ∈ J, p ∣ F j) → p ∣ (J.map F).sum
  | [], _ => ⟨0, by simp⟩
  | j :: J, h => by
    rw [List.map_cons, List.sum_cons]
    exact Int.dvd_add (h j List.mem_cons_self) (dvd_sum F J fun k hk => h k (List.mem_cons_of_mem _ hk))
theorem sum_lin {α : Type} (F G H : α → Int) (t : Int) : ∀ J : List α, (J.map fun j => F j - (G j - t * H j)).sum = (J.map F).sum - ((J.map G).sum - t * (J.map H).sum)
  | [] => by simp
  | j :: J => by
    rw [List.map_cons, List.sum_cons, sum_lin F G H t J, List.map_cons, List.sum_cons, List.map_cons, List.sum_cons, List.map_cons, List.sum_cons, Int.mul_add]
    omega
theorem emod_dvd (x p : Int) : p ∣ x % p - x := by
  rw [Int.emod_def]
  exact ⟨-(x / p), by rw [Int.mul_neg]; omega⟩
/-- what the marks of a row give at a place -/
def comb (S : List Rw) (n : Nat) (r : Rw) (i : Nat) : Int := ((List.range S.length).map fun j => at_ r (n + j) * at_ (S.getD j []) i).sum
def off (S : List Rw) (n : Nat) (r : Rw) (i : Nat) : Int := at_ r i - comb S n r i
theorem off_mn {S : List Rw} {n : Nat} {p t : Int} {a b : Rw} (h : a.length = b.length) (i : Nat) : p ∣ off S n (mn p a b t) i - (off S n a i - t * off S n b i) := by
  have e1 : p ∣ at_ (mn p a b t) i - (at_ a i - t * at_ b i) := by rw [at_mn h]; exact emod_dvd _ _
  have e2 : p ∣ comb S n (mn p a b t) i - (comb S n a i - t * comb S n b i) := by
    unfold comb
    rw [← sum_lin]
    refine dvd_sum _ _ fun j _ => ?_
    rw [at_mn h]
    have := Int.dvd_mul_of_dvd_left (c := at_ (S.getD j []) i) (emod_dvd (at_ a (n + j) - t * at_ b (n + j)) p)
    rw [Int.sub_mul, Int.sub_mul, Int.mul_assoc] at this
    exact this
  have := Int.dvd_sub e1 e2
  unfold off
  rw [Int.mul_sub]
  have e : at_ (mn p a b t) i - comb S n (mn p a b t) i - (at_ a i - comb S n a i - (t * at_ b i - t * comb S n b i)) = at_ (mn p a b t) i - (at_ a i - t * at_ b i) - (comb S n (mn p a b t) i - (comb S n a i - t * comb S n b i)) := by omega
  rw [e]; exact this
/-- the marks tell what the row is made of -/
def Lin (S : List Rw) (n : Nat) (p : Int) (r : Rw) : Prop := ∀ i, i < n → p ∣ off S n r i
theorem lin_rmd {S : List Rw} {n : Nat} {p : Int} {W : Nat} : ∀ {R : List Rw} {y : Rw}, (∀ r ∈ R, r.length = W ∧ Lin S n p r) → y.length = W → ∀ i, i < n → p ∣ off S n (rmd p R y) i - off S n y i
  | [], y, _, _, i, _ => ⟨0, by show off S n y i - off S n y i = _; omega⟩
  | l :: R, y, hR, hy, i, hi => by
    obtain ⟨h1, h2⟩ := hR l List.mem_cons_self
    have hl : y.length = l.length := by rw [hy, h1]
    have ih := lin_rmd (R := R) (y := mn p y l (at_ y (ld l))) (fun r hr => hR r (List.mem_cons_of_mem _ hr)) (by rw [mn_len hl, hy]) i hi
    have e1 := off_mn (S := S) (n := n) (p := p) (t := at_ y (ld l)) hl i
    have e2 : p ∣ at_ y (ld l) * off S n l i := Int.dvd_mul_of_dvd_right (h2 i hi)
    have := Int.dvd_sub (Int.dvd_add ih e1) e2
    show p ∣ off S n (rmd p R (mn p y l (at_ y (ld l)))) i - off S n y i
    have e : off S n (rmd p R (mn p y l (at_ y (ld l)))) i - off S n y i = off S n (rmd p R (mn p y l (at_ y (ld l)))) i - off S n (mn p y l (at_ y (ld l))) i + (off S n (mn p y l (at_ y (ld l))) i - (off S n y i - at_ y (ld l) * off S n l i)) - at_ y (ld l) * off S n l i := by omega
    rw [e]; exact this
theorem lin_led {S : List Rw} {n : Nat} {p : Int} {r : Rw} (h : Lin S n p r) : Lin S n p (led p r) := by
  intro i hi
  have e1 : p ∣ at_ (led p r) i - (0 - (-inv1 p (fst1 r)) * at_ r i) := by
    rw [at_led]
    have := emod_dvd (at_ r i * inv1 p (fst1 r)) p
    rw [Int.neg_mul, Int.zero_sub, Int.neg_neg, Int.mul_comm (inv1 p (fst1 r))]; exact this
  have e2 : p ∣ comb S n (led p r) i - (0 - (-inv1 p (fst1 r)) * comb S n r i) := by
    unfold comb
    have hz : ((List.range S.length).map fun _ => (0 : Int)).sum = 0 := by
      generalize List.range S.length = J
      induction J with
      | nil => rfl
      | cons a J ih => rw [List.map_cons, List.sum_cons, ih]; rfl
    have hs := sum_lin (fun j => at_ (led p r) (n + j) * at_ (S.getD j []) i) (fun _ => (0 : Int)) (fun j => at_ r (n + j) * at_ (S.getD j []) i) (-inv1 p (fst1 r)) (List.range S.length)
    rw [hz] at hs
    rw [← hs]
    refine dvd_sum _ _ fun j _ => ?_
    rw [at_led]
    have := Int.dvd_mul_of_dvd_left (c := at_ (S.getD j []) i) (emod_dvd (at_ r (n + j) * inv1 p (fst1 r)) p)
    rw [Int.sub_mul] at this
    rw [Int.neg_mul, Int.zero_sub, Int.neg_neg, ← Int.mul_assoc, Int.mul_comm (inv1 p (fst1 r)) (at_ r (n + j))]
    exact this
  have e3 : p ∣ (-inv1 p (fst1 r)) * off S n r i := Int.dvd_mul_of_dvd_right (h i hi)
  have := Int.dvd_sub (Int.dvd_sub e1 e2) e3
  unfold off at *
  rw [Int.mul_sub] at this
  have e : at_ (led p r) i - comb S n (led p r) i = at_ (led p r) i - (0 - -inv1 p (fst1 r) * at_ r i) - (comb S n (led p r) i - (0 - -inv1 p (fst1 r) * comb S n r i)) - (-inv1 p (fst1 r) * at_ r i - -inv1 p (fst1 r) * comb S n r i) := by omega
  rw [e]; exact this
theorem lin_of {S : List Rw} {n : Nat} {p : Int} {W : Nat} {R : List Rw} {y : Rw} (hR : ∀ r ∈ R, r.length = W ∧ Lin S n p r) (hy : y.length = W) (h : Lin S n p y) : Lin S n p (rmd p R y) := fun i hi => by
  have := Int.dvd_add (lin_rmd hR hy i hi) (h i hi)
  rwa [Int.sub_add_cancel] at this
theorem lin_step {S : List Rw} {n : Nat} {p : Int} {W : Nat} {R : List Rw} {y : Rw} (hR : ∀ r ∈ R, r.length = W ∧ Lin S n p r) (hy : y.length = W) (h : Lin S n p y) : ∀ r ∈ step p R y, r.length = W ∧ Lin S n p r := by
  unfold step
  by_cases c : nz (rmd p R y) = true
  · rw [if_pos c]
    intro r hr
    have hlen := rmd_len (p := p) (R := R) (fun r hr => (hR r hr).1) hy
    have hl : (led p (rmd p R y)).length = W ∧ Lin S n p (led p (rmd p R y)) := ⟨by rw [led_len, hlen], lin_led (lin_of hR hy h)⟩
    rcases List.mem_cons.mp ((srtD_perm _).mem_iff.mp hr) with rfl | hr
    · exact hl
    · obtain ⟨o, ho, rfl⟩ := List.mem_map.mp hr
      have hone : ∀ r ∈ [led p (rmd p R y)], r.length = W ∧ Lin S n p r := fun r hr => by rw [List.mem_singleton.mp hr]; exact hl
      exact ⟨rmd_len (p := p) (fun r hr => (hone r hr).1) (hR o ho).1, lin_of hone (hR o ho).1 (hR o ho).2⟩
  · rw [if_neg c]; exact hR
end Spc
set_option Elab.async false
set_option linter.all false
namespace Spc
open Pd
theorem take_mn {p t : Int} {a b : Rw} (n : Nat) : (mn p a b t).take n = mn p (a.take n) (b.take n) t := by
  unfold mn; rw [List.take_zipWith]
theorem at_take {r : Rw} {n i : Nat} (h : i < n) : at_ (r.take n) i = at_ r i := by
  unfold at_; rw [List.getD_eq_getElem?_getD, List.getD_eq_getElem?_getD, List.getElem?_take, if_pos h]
theorem ld_take {r : Rw} {n : Nat} (h : (1 : Int) ∈ r.take n) : ld r = ld (r.take n) ∧ ld r < n := by
  have e : ld r = ld (r.take n) := by
    unfold ld
    conv => lhs; rw [← List.take_append_drop n r]
    rw [List.idxOf_append, if_pos h]
  refine ⟨e, ?_⟩
  rw [e]
  have : ld (r.take n) < (r.take n).length := List.idxOf_lt_length_iff.mpr h
  rw [List.length_take] at this
  omega
theorem nz_zero {r : Rw} (h : ∀ i, at_ r i = 0) : nz r = false := by
  cases c : nz r with
  | false => rfl
  | true =>
    obtain ⟨i, _, hi⟩ := nz_at c
    exact absurd (h i) hi
theorem mn_nil {p t : Int} {a b : Rw} (hl : a.length = b.length) (ha : InP p a) (hp : 0 < p) (hb : nz b = false) : mn p a b t = a := by
  refine row_ext (mn_len hl) fun i _ => ?_
  rw [at_mn hl, nz_not hb, Int.mul_zero, Int.sub_zero]
  have := ha.at hp i
  exact Int.emod_eq_of_lt this.1 this.2
theorem InP.take {p : Int} {r : Rw} (h : InP p r) (n : Nat) : InP p (r.take n) := fun x hx => h x (List.mem_of_mem_take hx)
def proj (n : Nat) (R : List Rw) : List Rw := (R.filter fun r => nz (r.take n)).map (List.take n)
theorem proj_cons_t {n : Nat} {l : Rw} {R : List Rw} (h : nz (l.take n) = true) : proj n (l :: R) = l.take n :: proj n R := by
  unfold proj; rw [List.filter_cons_of_pos (p := fun r : Rw => nz (r.take n)) h]; rfl
theorem proj_cons_f {n : Nat} {l : Rw} {R : List Rw} (h : nz (l.take n) = false) : proj n (l :: R) = proj n R := by
  unfold proj; rw [List.filter_cons_of_neg (p := fun r : Rw => nz (r.take n)) (by show ¬ nz (l.take n) = true; rw [h]; exact Bool.false_ne_true)]
theorem proj_rmd {p : Int} {n W : Nat} (hp : 0 < p) : ∀ {R : List Rw} {y : Rw}, (∀ r ∈ R, r.length = W ∧ (nz (r.take n) = true → (1 : Int) ∈ r.take n)) → y.length = W → InP p y → (rmd p R y).take n = rmd p (proj n R) (y.take n)
  | [], _, _, _, _ => rfl
  | l :: R, y, hR, hy, hi => by
    obtain ⟨h1, h2⟩ := hR l List.mem_cons_self
    have hl : y.length = l.length := by rw [hy, h1]
    have ih := proj_rmd hp (R := R) (y := mn p y l (at_ y (ld l))) (fun r hr => hR r (List.mem_cons_of_mem _ hr)) (by rw [mn_len hl, hy]) (mn_in hp)
    show (rmd p R (mn p y l (at_ y (ld l)))).take n = _
    rw [ih, take_mn]
    cases c : nz (l.take n) with
    | true =>
      obtain ⟨e1, e2⟩ := ld_take (h2 c)
      rw [proj_cons_t c]
      show _ = rmd p (proj n R) (mn p (y.take n) (l.take n) (at_ (y.take n) (ld (l.take n))))
      rw [← e1, at_take e2]
    | false =>
      rw [proj_cons_f c, mn_nil (by rw [List.length_take, List.length_take, hl]) (hi.take n) hp c]
theorem fst1_take {r : Rw} {n : Nat} (h : nz (r.take n) = true) : fst1 (r.take n) = fst1 r := by
  unfold fst1
  conv => rhs; rw [← List.take_append_drop n r]
  rw [List.filter_append]
  cases e : (r.take n).filter fun n => n != 0 with
  | nil =>
    obtain ⟨x, hx, hn⟩ := List.any_eq_true.mp h
    have : x ∈ (r.take n).filter fun n => n != 0 := List.mem_filter.mpr ⟨hx, hn⟩
    rw [e] at this
    cases this
  | cons a l => rfl
theorem led_take {p : Int} {r : Rw} {n : Nat} (h : nz (r.take n) = true) : (led p r).take n = led p (r.take n) := by
  unfold led
  rw [fst1_take h, List.map_take]
theorem srt_unique {l s : List Rw} (hs : s.Pairwise fun a b => leD a b = true) (hp : s.Perm l) : srtD l = s := by
  rw [← sort_eq]
  exact ((List.mergeSort_perm l leD).trans hp.symm).eq_of_pairwise (fun a b _ _ h1 h2 => leD_anti a b h1 h2) (List.pairwise_mergeSort leD_trans leD_total l) hs
theorem take_lt : ∀ {n : Nat} {a b : Rw}, a.length = b.length → a.take n < b.take n → a < b
  | 0, a, b, _, h => absurd h (List.not_lt_nil _)
  | n + 1, [], [], _, h => h
  | n + 1, x :: a, y :: b, hl, h => by
    have h : x :: a.take n < y :: b.take n := h
    rw [List.cons_lt_cons_iff] at h ⊢
    rcases h with h | ⟨h1, h2⟩
    · exact .inl h
    · exact .inr ⟨h1, take_lt (by simpa using hl) h2⟩
theorem leD_take {n : Nat} {a b : Rw} (hl : a.length = b.length) (h : leD a b = true) : leD (a.take n) (b.take n) = true := by
  unfold leD at *
  have h1 : ¬ a < b := by simpa using h
  have : ¬ a.take n < b.take n := fun z => h1 (take_lt hl z)
  simpa using this
theorem proj_srt {W n : Nat} {X : List Rw} (hX : ∀ r ∈ X, r.length = W) : proj n (srtD X) = srtD (proj n X) := by
  refine (srt_unique ?_ ?_).symm
  · unfold proj
    rw [List.pairwise_map]
    refine ((srtD_sorted X).filter _).imp_of_mem fun {a b} ha hb h => leD_take ?_ h
    rw [hX a ((srtD_perm X).mem_iff.mp (List.mem_filter.mp ha).1), hX b ((srtD_perm X).mem_iff.mp (List.mem_filter.mp hb).1)]
  · unfold proj
    exact ((srtD_perm X).filter _).map _
theorem proj_map {n : Nat} {g h : Rw → Rw} : ∀ {R : List Rw}, (∀ o ∈ R, nz ((g o).take n) = nz (o.take n) ∧ (nz (o.take n) = true → (g o).take n = h (o.take n))) → proj n (R.map g) = (proj n R).map h
  | [], _ => rfl
  | o :: R, hR => by
    obtain ⟨h1, h2⟩ := hR o List.mem_cons_self
    have ih := proj_map (R := R) (g := g) (h := h) fun s hs => hR s (List.mem_cons_of_mem _ hs)
    rw [List.map_cons]
    cases c : nz (o.take n) with
    | true =>
      rw [proj_cons_t (by rw [h1, c]), proj_cons_t c, ih, List.map_cons, h2 c]
    | false =>
      rw [proj_cons_f (by rw [h1, c]), proj_cons_f c, ih]
theorem proj_step {W n : Nat} {p : Int} {R : List Rw} {y : Rw} (hp : 2 ≤ p) (hI : Invs p) (h : Rref W p R) (hn : n ≤ W) (hy : y.length = W) (hi : InP p y)
    (h1 : ∀ r ∈ R, nz (r.take n) = true → (1 : Int) ∈ r.take n) (hsrt : (proj n R).Pairwise fun a b => leD a b = true) (hS : ∀ s ∈ step p (proj n R) (y.take n), (1 : Int) ∈ s) :
    proj n (step p R y) = step p (proj n R) (y.take n) := by
  have hR : ∀ r ∈ R, r.length = W ∧ (nz (r.take n) = true → (1 : Int) ∈ r.take n) := fun r hr => ⟨(h.led r hr).len, h1 r hr⟩
  have er := proj_rmd (by omega) hR hy hi
  have hlen := rmd_len (p := p) (R := R) (fun r hr => (h.led r hr).len) hy
  have hin := rmd_in (R := R) (y := y) (by omega : 0 < p) hi
  unfold step at hS ⊢
  rw [← er] at hS ⊢
  by_cases c : nz (rmd p R y) = true
  · rw [if_pos c]
    obtain ⟨k, hk⟩ := led_led (by omega) hI hlen hin c
    have hk0 : ∀ r ∈ R, at_ (led p (rmd p R y)) (ld r) = 0 := fun r hr => by rw [at_led, rmd_zero (by omega) h hy r hr, Int.zero_mul]; simp
    cases c2 : nz ((rmd p R y).take n) with
    | true =>
      rw [c2, if_pos rfl] at hS
      rw [if_pos rfl]
      have et : (led p (rmd p R y)).take n = led p ((rmd p R y).take n) := led_take c2
      rw [← et] at hS ⊢
      generalize led p (rmd p R y) = l at hk hk0 hS et ⊢
      have hl1 : (1 : Int) ∈ l.take n := hS _ ((srtD_perm _).mem_iff.mpr List.mem_cons_self)
      have hlnz : nz (l.take n) = true := List.any_eq_true.mpr ⟨1, hl1, by decide⟩
      obtain ⟨el, ll⟩ := ld_take hl1
      have eo : ∀ o ∈ R, (rmd p [l] o).take n = rmd p [l.take n] (o.take n) := fun o ho => by
        have := proj_rmd (p := p) (n := n) (W := W) (by omega) (R := [l]) (y := o) (fun r hr => by rw [List.mem_singleton.mp hr]; exact ⟨hk.len, fun _ => hl1⟩) (h.led o ho).len (h.led o ho).inp
        rw [this, proj_cons_t hlnz]; rfl
      rw [proj_srt (W := W) (fun r hr => by
        rcases List.mem_cons.mp hr with rfl | hr
        · exact hk.len
        · obtain ⟨o, ho, rfl⟩ := List.mem_map.mp hr
          exact (other_led hp hk (h.led o ho) (hk0 o ho)).len), proj_cons_t hlnz, proj_map (h := fun o => rmd p [l.take n] o)]
      intro o ho
      cases c3 : nz (o.take n) with
      | true =>
        refine ⟨?_, fun _ => eo o ho⟩
        rw [eo o ho]
        have hm : rmd p [l.take n] (o.take n) ∈ (proj n R).map fun o => rmd p [l.take n] o := List.mem_map.mpr ⟨o.take n, List.mem_map.mpr ⟨o, List.mem_filter.mpr ⟨ho, c3⟩, rfl⟩, rfl⟩
        exact List.any_eq_true.mpr ⟨1, hS _ ((srtD_perm _).mem_iff.mpr (List.mem_cons_of_mem _ hm)), by decide⟩
      | false =>
        refine ⟨?_, fun z => by cases z⟩
        rw [eo o ho]
        refine nz_zero fun i => ?_
        show at_ (mn p (o.take n) (l.take n) (at_ (o.take n) (ld (l.take n)))) i = 0
        rw [nz_not c3, at_mn (by rw [List.length_take, List.length_take, (h.led o ho).len, hk.len]), nz_not c3]
        simp
    | false =>
      rw [if_neg Bool.false_ne_true]
      have hl0 : nz ((led p (rmd p R y)).take n) = false := nz_zero fun i => by
        by_cases hi2 : i < n
        · rw [at_take hi2, at_led, ← at_take (r := rmd p R y) hi2, nz_not c2, Int.zero_mul]; simp
        · exact at_ge (by rw [List.length_take]; omega)
      generalize led p (rmd p R y) = l at hk hk0 hl0 ⊢
      have eo : ∀ o ∈ R, (rmd p [l] o).take n = o.take n := fun o ho => by
        show (mn p o l (at_ o (ld l))).take n = _
        rw [take_mn, mn_nil (by rw [List.length_take, List.length_take, (h.led o ho).len, hk.len]) ((h.led o ho).inp.take n) (by omega) hl0]
      rw [proj_srt (W := W) (fun r hr => by
        rcases List.mem_cons.mp hr with rfl | hr
        · exact hk.len
        · obtain ⟨o, ho, rfl⟩ := List.mem_map.mp hr
          exact (other_led hp hk (h.led o ho) (hk0 o ho)).len), proj_cons_f hl0, proj_map (h := id)]
      · rw [List.map_id]
        exact srt_unique hsrt (List.Perm.refl _)
      · intro o ho
        rw [eo o ho]
        exact ⟨rfl, fun _ => rfl⟩
  · have c' : nz (rmd p R y) = false := by simpa using c
    have c2 : nz ((rmd p R y).take n) = false := nz_zero fun i => by
      by_cases hi2 : i < n
      · rw [at_take hi2, nz_not c']
      · exact at_ge (by rw [List.length_take]; omega)
    rw [if_neg c, c2, if_neg Bool.false_ne_true]
end Spc
set_option Elab.async false
set_option linter.all false
namespace Spc
open Pd
/-- what holds of the rows while they are reduced -/
structure Wide (S : List Rw) (W n : Nat) (p : Int) (R N : List Rw) : Prop where
  rref : Rref W p R
  proj : proj n R = N
  lin : ∀ r ∈ R, r.length = W ∧ Lin S n p r
  srt : N.Pairwise fun a b => leD a b = true
theorem Wide.one {S : List Rw} {W n : Nat} {p : Int} {R N : List Rw} (h : Wide S W n p R N) (hN : ∀ l ∈ N, (1 : Int) ∈ l) : ∀ r ∈ R, nz (r.take n) = true → (1 : Int) ∈ r.take n := fun r hr c =>
  hN _ (by rw [← h.proj]; exact List.mem_map.mpr ⟨r, List.mem_filter.mpr ⟨hr, c⟩, rfl⟩)
theorem wide_step {S : List Rw} {W n : Nat} {p : Int} {R N : List Rw} {y : Rw} (hp : 2 ≤ p) (hI : Invs p) (hn : n ≤ W) (h : Wide S W n p R N) (hN : ∀ l ∈ N, (1 : Int) ∈ l) (hS : ∀ l ∈ step p N (y.take n), (1 : Int) ∈ l)
    (hy : y.length = W) (hi : InP p y) (hl : Lin S n p y) : Wide S W n p (step p R y) (step p N (y.take n)) := by
  refine ⟨rref_step hp hI h.rref hy hi, ?_, lin_step h.lin hy hl, ?_⟩
  · rw [← h.proj] at hS ⊢
    exact proj_step hp hI h.rref hn hy hi (h.one hN) (by rw [h.proj]; exact h.srt) hS
  · unfold step
    split
    · exact srtD_sorted _
    · exact h.srt
theorem wide_red {S : List Rw} {W n : Nat} {p : Int} {G : List Rw → Prop} {Y : Rw → Prop} (hp : 2 ≤ p) (hI : Invs p) (hn : n ≤ W) (hG : ∀ R y, G R → Y y → G (step p R y)) (hG1 : ∀ R, G R → ∀ l ∈ R, (1 : Int) ∈ l) :
    ∀ {rows R N : List Rw}, Wide S W n p R N → G N → (∀ r ∈ rows, r.length = W ∧ InP p r ∧ Lin S n p r ∧ Y (r.take n)) → Wide S W n p (rows.foldl (step p) R) ((rows.map (List.take n)).foldl (step p) N)
  | [], _, _, h, _, _ => h
  | y :: rows, R, N, h, g, hr => by
    obtain ⟨h1, h2, h3, h4⟩ := hr y List.mem_cons_self
    have g2 := hG N _ g h4
    exact wide_red hp hI hn hG hG1 (rows := rows) (wide_step hp hI hn h (hG1 N g) (hG1 _ g2) h1 h2 h3) g2 fun r hrr => hr r (List.mem_cons_of_mem _ hrr)
theorem wide_nil (S : List Rw) (W n : Nat) (p : Int) : Wide S W n p [] [] := ⟨⟨fun _ h => (by cases h), List.Pairwise.nil⟩, rfl, fun _ h => (by cases h), List.Pairwise.nil⟩
/-- what is left of a wished row that bears no marks -/
theorem wide_rest {S : List Rw} {n : Nat} {p : Int} {R N : List Rw} {w : Rw} (hp : 2 ≤ p) (h : Wide S (n + S.length) n p R N) (hN : ∀ l ∈ N, (1 : Int) ∈ l) (hw : w.length = n) (hi : InP p w) :
    (rmd p R (w ++ zero S.length)).length = n + S.length ∧ InP p (rmd p R (w ++ zero S.length)) ∧ (rmd p R (w ++ zero S.length)).take n = rmd p N w ∧
      (nz (rmd p N w) = false → ∀ i, i < n → p ∣ at_ w i + comb S n (rmd p R (w ++ zero S.length)) i) := by
  have hlen : (w ++ zero S.length).length = n + S.length := by rw [List.length_append, hw]; unfold zero; rw [List.length_replicate]
  have hin : InP p (w ++ zero S.length) := fun x hx => by
    rcases List.mem_append.mp hx with hx | hx
    · exact hi x hx
    · rw [(List.mem_replicate.mp hx).2]; exact ⟨Int.le_refl _, by omega⟩
  have htk : (w ++ zero S.length).take n = w := by rw [← hw]; exact List.take_left
  have et := proj_rmd (p := p) (n := n) (W := n + S.length) (by omega) (R := R) (y := w ++ zero S.length) (fun r hr => ⟨(h.lin r hr).1, h.one hN r hr⟩) hlen hin
  rw [h.proj, htk] at et
  refine ⟨rmd_len (p := p) (fun r hr => (h.lin r hr).1) hlen, rmd_in (by omega) hin, et, fun hz i hii => ?_⟩
  have e := lin_rmd h.lin hlen i hii
  have hmark : ∀ j, at_ (w ++ zero S.length) (n + j) = 0 := fun j => by
    unfold at_
    rw [List.getD_eq_getElem?_getD, List.getElem?_append_right (by omega), hw, show n + j - n = j by omega]
    unfold zero
    rw [List.getElem?_replicate]
    split <;> rfl
  have hc : comb S n (w ++ zero S.length) i = 0 := by
    unfold comb
    generalize List.range S.length = J
    induction J with
    | nil => rfl
    | cons a J ih => rw [List.map_cons, List.sum_cons, ih, hmark a, Int.zero_mul]; rfl
  have hwi : at_ (w ++ zero S.length) i = at_ w i := by rw [← at_take hii, htk]
  have hr0 : at_ (rmd p R (w ++ zero S.length)) i = 0 := by rw [← at_take hii, et]; exact nz_not hz i
  unfold off at e
  rw [hr0, hc, hwi] at e
  have e2 : at_ w i + comb S n (rmd p R (w ++ zero S.length)) i = -(0 - comb S n (rmd p R (w ++ zero S.length)) i - (at_ w i - 0)) := by omega
  rw [e2]
  exact Int.dvd_neg.mpr e
end Spc
set_option Elab.async false
set_option linter.all false
namespace Spc
def addm (p : Int) (f : Rw) (t : Rw × Int) : Rw := mn p f t.1 (-t.2)
theorem fold_len {p : Int} {n : Nat} : ∀ {ts : List (Rw × Int)} {f : Rw}, f.length = n → (∀ t ∈ ts, t.1.length = n) → (ts.foldl (addm p) f).length = n
  | [], _, h, _ => h
  | t :: ts, f, h, ht => fold_len (ts := ts) (by unfold addm; rw [mn_len (by rw [h, ht t List.mem_cons_self]), h]) fun u hu => ht u (List.mem_cons_of_mem _ hu)
theorem fold_in {p : Int} (hp : 0 < p) : ∀ {ts : List (Rw × Int)} {f : Rw}, InP p f → InP p (ts.foldl (addm p) f)
  | [], _, h => h
  | t :: ts, f, _ => fold_in hp (ts := ts) (mn_in hp)
theorem fold_at {p : Int} {n : Nat} (i : Nat) : ∀ {ts : List (Rw × Int)} {f : Rw}, f.length = n → (∀ t ∈ ts, t.1.length = n) → p ∣ at_ (ts.foldl (addm p) f) i - (at_ f i + (ts.map fun t => t.2 * at_ t.1 i).sum)
  | [], f, _, _ => ⟨0, by show at_ f i - (at_ f i + 0) = _; omega⟩
  | t :: ts, f, h, ht => by
    have hl : f.length = t.1.length := by rw [h, ht t List.mem_cons_self]
    have ih := fold_at (p := p) i (ts := ts) (f := addm p f t) (by unfold addm; rw [mn_len hl, h]) fun u hu => ht u (List.mem_cons_of_mem _ hu)
    have e : p ∣ at_ (addm p f t) i - (at_ f i - -t.2 * at_ t.1 i) := by unfold addm; rw [at_mn hl]; exact emod_dvd _ _
    have := Int.dvd_add ih e
    show p ∣ at_ (ts.foldl (addm p) (addm p f t)) i - _
    rw [List.map_cons, List.sum_cons]
    have e2 : at_ (ts.foldl (addm p) (addm p f t)) i - (at_ f i + (t.2 * at_ t.1 i + (ts.map fun t => t.2 * at_ t.1 i).sum)) = at_ (ts.foldl (addm p) (addm p f t)) i - (at_ (addm p f t) i + (ts.map fun t => t.2 * at_ t.1 i).sum) + (at_ (addm p f t) i - (at_ f i - -t.2 * at_ t.1 i)) := by rw [Int.neg_mul]; omega
    rw [e2]; exact this
/-- the rows of the combination, each with its factor -/
def facs (S : List Rw) (n : Nat) (p : Int) (rest : Rw) : List (Rw × Int) := ((List.range S.length).map fun j => (S.getD j [], -at_ rest (n + j) % p)).filter fun t => t.2 != 0
theorem sum_filter (F : Rw × Int → Int) (h : ∀ t, t.2 = 0 → F t = 0) : ∀ ts : List (Rw × Int), ((ts.filter fun t => t.2 != 0).map F).sum = (ts.map F).sum
  | [] => rfl
  | t :: ts => by
    by_cases c : t.2 = 0
    · rw [List.filter_cons_of_neg (by simpa using c), sum_filter F h ts, List.map_cons, List.sum_cons, h t c, Int.zero_add]
    · rw [List.filter_cons_of_pos (by simpa using c), List.map_cons, List.sum_cons, sum_filter F h ts, List.map_cons, List.sum_cons]
theorem comb_gives {S : List Rw} {n : Nat} {p : Int} {w rest : Rw} (hp : 0 < p) (hS : ∀ s ∈ S, s.length = n) (hw : w.length = n) (hi : InP p w) (h : ∀ i, i < n → p ∣ at_ w i + comb S n rest i) :
    (facs S n p rest).foldl (addm p) (zero n) = w := by
  have hz : (zero n).length = n := by unfold zero; rw [List.length_replicate]
  have hzi : InP p (zero n) := fun x hx => by rw [(List.mem_replicate.mp hx).2]; exact ⟨Int.le_refl _, hp⟩
  have hf : ∀ t ∈ facs S n p rest, t.1.length = n := fun t ht => by
    obtain ⟨j, hj, rfl⟩ := List.mem_map.mp (List.mem_filter.mp ht).1
    have hj := List.mem_range.mp hj
    show (S.getD j []).length = n
    rw [List.getD_eq_getElem?_getD, List.getElem?_eq_getElem hj]
    exact hS _ (List.getElem_mem hj)
  have hl := fold_len (p := p) hz hf
  refine row_ext (by rw [hl, hw]) fun i hii => ?_
  rw [hl] at hii
  have e1 := fold_at (p := p) i hz hf
  have e0 : at_ (zero n) i = 0 := by
    unfold at_ zero
    rw [List.getD_eq_getElem?_getD, List.getElem?_replicate]
    split <;> rfl
  have e2 : ((facs S n p rest).map fun t => t.2 * at_ t.1 i).sum = ((List.range S.length).map fun j => -at_ rest (n + j) % p * at_ (S.getD j []) i).sum := by
    unfold facs
    rw [sum_filter (fun t => t.2 * at_ t.1 i) (fun t h => by show t.2 * _ = 0; rw [h, Int.zero_mul]), List.map_map]; rfl
  have e3 : p ∣ ((List.range S.length).map fun j => -at_ rest (n + j) % p * at_ (S.getD j []) i).sum - (0 - 1 * comb S n rest i) := by
    unfold comb
    have hz0 : ((List.range S.length).map fun _ => (0 : Int)).sum = 0 := by
      generalize List.range S.length = J
      induction J with
      | nil => rfl
      | cons a J ih => rw [List.map_cons, List.sum_cons, ih]; rfl
    have hs := sum_lin (fun j => -at_ rest (n + j) % p * at_ (S.getD j []) i) (fun _ => (0 : Int)) (fun j => at_ rest (n + j) * at_ (S.getD j []) i) 1 (List.range S.length)
    rw [hz0] at hs
    rw [← hs]
    refine dvd_sum _ _ fun j _ => ?_
    have := Int.dvd_mul_of_dvd_left (c := at_ (S.getD j []) i) (emod_dvd (-at_ rest (n + j)) p)
    rw [Int.sub_mul, Int.neg_mul] at this
    have e : -at_ rest (n + j) % p * at_ (S.getD j []) i - (0 - 1 * (at_ rest (n + j) * at_ (S.getD j []) i)) = -at_ rest (n + j) % p * at_ (S.getD j []) i - -(at_ rest (n + j) * at_ (S.getD j []) i) := by omega
    rw [e]; exact this
  rw [e0, e2] at e1
  have e4 := Int.dvd_sub (Int.dvd_add e1 e3) (h i hii)
  have e5 : p ∣ at_ ((facs S n p rest).foldl (addm p) (zero n)) i - at_ w i := by
    have e : at_ ((facs S n p rest).foldl (addm p) (zero n)) i - at_ w i = at_ ((facs S n p rest).foldl (addm p) (zero n)) i - (0 + ((List.range S.length).map fun j => -at_ rest (n + j) % p * at_ (S.getD j []) i).sum) + (((List.range S.length).map fun j => -at_ rest (n + j) % p * at_ (S.getD j []) i).sum - (0 - 1 * comb S n rest i)) - (at_ w i + comb S n rest i) := by omega
    rw [e]; exact e4
  have b1 := (fold_in hp (ts := facs S n p rest) hzi).at hp i
  have b2 := hi.at hp i
  obtain ⟨c, hc⟩ := e5
  have : c = 0 := by
    rcases Int.lt_trichotomy c 0 with h | h | h
    · have : p * c ≤ p * (-1) := Int.mul_le_mul_of_nonneg_left (by omega) (by omega)
      omega
    · exact h
    · have : p * 1 ≤ p * c := Int.mul_le_mul_of_nonneg_left (by omega) (by omega)
      omega
  rw [this] at hc
  omega
end Spc
set_option Elab.async false
set_option linter.all false
set_option maxRecDepth 100000
set_option maxHeartbeats 4000000
namespace K11
open PySem PySem.Spec PyProof.Rows L2 Pd
section
variable {P : Program} {w : World} {K : PySem.W.Frag} {mg : Str → Option Value} {base : Heap}
/-- a def that has defaults -/
theorem pd_fnD {x qual : Str} {st : Stmt} {dvs : List V} {kws : List (Str × V)} {f : Addr} {fd : FuncData} {N ps : List Str} {k : Nat} {W : DC} (F : FunD K x qual (defArgs st) (defBody st) (defScope st) dvs kws f fd) (S : FnScope N ps (defScope st))
    (hbody : ∀ (cdv : Value) (A : Around) (outer : List Env) (s : Shared) (H : Hp) (E : XK), Room k (A.deeper (envOfC qual (defScope st) s.heap.objs.size f cdv)) →
      ∃ t, PDSs (cxOf CX0 P w K mg base N qual (defScope st) f cdv A outer s H E).nox (defBody st) t ∧ ∀ ds M Q, ds.length = ps.length → W ds M Q → t { nx := fun _ M' => Q .non M', rt := Q } (startD N ds) M) :
    FnOk P w K mg base CX0 (k + 1) f fd ps (spD ps.length W K) := by
  refine F.ok S (fun vs H Q E h => h.1) (fun cdv A outer s H vs Q E hr h => ?_)
  obtain ⟨hl, as, M, L, ds, P', r, A0, hw, q⟩ := h
  obtain ⟨t, ht, hb⟩ := hbody cdv A outer s H E hr
  obtain ⟨ts, pt, st'⟩ := ht.ex
  refine ⟨ts, pt.nox, st' as (L2.start N vs) (startD N ds) L H M _ _ (en_start r) A0 (hb ds M P' (by rw [← r.length]; exact hl) hw) ⟨?_, ?_, ?_, ?_⟩⟩
  · exact fun σ' ρ' L' H' M' s1 A1 _ p => q .non .non L' H' M' s1 A1 p .non
  · exact fun v d L' H' M' s1 A1 p r => q v d L' H' M' s1 A1 p r
  · exact fun _ _ _ _ _ _ _ _ p => p.elim
  · exact fun _ _ _ _ _ _ _ _ p => p.elim
end
theorem funD_mk {K : PySem.W.Frag} {x qual : Str} {st : Stmt} {f T E : Addr} {oc : Value} {od an : Option Addr} {osl : Array (Option Value)} {kV doc pm cdv ct c : Value} {dd : Option Addr} {n : Nat} {sl : Array (Option Value)}
    (hl : K.lookup f = some ⟨oc, od, .func (PySem.W.fnOf x qual (defArgs st) (defBody st) (defScope st) (.ref T) kV doc pm an cdv ct), osl⟩) (hc : PySem.W.codeIn K cdv qual = true) (hk : PySem.W.keepIn K (.ref f) = true) (hT : K.lookup T = some ⟨c, dd, .seq #[.ref E] n, sl⟩) :
    FunD K x qual (defArgs st) (defBody st) (defScope st) [V.ref E] [] f (PySem.W.fnOf x qual (defArgs st) (defBody st) (defScope st) (.ref T) kV doc pm an cdv ct) :=
  ⟨⟨oc, od, .ref T, kV, doc, pm, an, cdv, ct, osl, rfl, hl, hc, .inr ⟨by simp, T, _, [.ref E], n, rfl, hT, rfl, .cons rfl .nil⟩, .inl rfl⟩, hk⟩
theorem binds_all {K : PySem.W.Frag} {x qual : Str} {params : Arguments} {body : List Stmt} {scope : Scope} {v : V} {kws : List (Str × V)} {f : Addr} {fd : FuncData} {ps : List Str} (F : FunD K x qual params body scope [v] kws f fd) (n : Nat) (hn : n = ps.length)
    (h : ∀ (T : Addr) (kV doc pm : Value) (an : Option Addr) (cdv ct : Value) (us its : List Value), us.length = n → its.length = [v].length → ∃ k, bindArgs (PySem.W.fnOf x qual params body scope (.ref T) kV doc pm an cdv ct) { pos := us } = seqItems? (.ref T) >>= k ∧ k (some its.toArray) = pure (ps.zip (us ++ its.drop 1))) : Binds K fd ps [] := by
  obtain ⟨ds, h1, h2⟩ := F.binds1 n 1 (by simp) (by simpa using hn) h
  cases h1
  exact h2
theorem funD_mkN {K : PySem.W.Frag} {x qual : Str} {st : Stmt} {f T : Addr} {oc : Value} {od an : Option Addr} {osl : Array (Option Value)} {kV doc pm cdv ct c : Value} {dd : Option Addr} {n : Nat} {sl : Array (Option Value)}
    (hl : K.lookup f = some ⟨oc, od, .func (PySem.W.fnOf x qual (defArgs st) (defBody st) (defScope st) (.ref T) kV doc pm an cdv ct), osl⟩) (hc : PySem.W.codeIn K cdv qual = true) (hk : PySem.W.keepIn K (.ref f) = true) (hT : K.lookup T = some ⟨c, dd, .seq #[.none] n, sl⟩) :
    FunD K x qual (defArgs st) (defBody st) (defScope st) [V.non] [] f (PySem.W.fnOf x qual (defArgs st) (defBody st) (defScope st) (.ref T) kV doc pm an cdv ct) :=
  ⟨⟨oc, od, .ref T, kV, doc, pm, an, cdv, ct, osl, rfl, hl, hc, .inr ⟨by simp, T, _, [.none], n, rfl, hT, rfl, .cons rfl .nil⟩, .inl rfl⟩, hk⟩
def topS (i : Nat) : Stmt := PySem.Challenge.pw_leastreads_k11_whole_answers_of_the_grou.main.body.getD i (.Pass ⟨0, 0, 0, 0⟩)
abbrev s_is_integer : Stmt := topS 4
theorem sc_is_integer : FnScope ["value"] ["value"] (defScope s_is_integer) := ⟨rfl, rfl, rfl, by decide +kernel, rfl, by decide +kernel, by decide +kernel⟩
abbrev s_is_between : Stmt := topS 5
theorem sc_is_between : FnScope ["value", "low", "high"] ["value", "low", "high"] (defScope s_is_between) := ⟨rfl, rfl, rfl, by decide +kernel, rfl, by decide +kernel, by decide +kernel⟩
abbrev s_has_items : Stmt := topS 6
theorem sc_has_items : FnScope ["value", "least", "most"] ["value", "least", "most"] (defScope s_has_items) := ⟨rfl, rfl, rfl, by decide +kernel, rfl, by decide +kernel, by decide +kernel⟩
abbrev s_all_between : Stmt := topS 7
theorem sc_all_between : FnScope ["items", "low", "high", "item"] ["items", "low", "high"] (defScope s_all_between) := ⟨rfl, rfl, rfl, by decide +kernel, rfl, by decide +kernel, by decide +kernel⟩
abbrev s_is_ascending : Stmt := topS 8
theorem sc_is_ascending : FnScope ["items", "one", "other"] ["items"] (defScope s_is_ascending) := ⟨rfl, rfl, rfl, by decide +kernel, rfl, by decide +kernel, by decide +kernel⟩
abbrev s_is_spot : Stmt := topS 9
theorem sc_is_spot : FnScope ["value", "spots"] ["value", "spots"] (defScope s_is_spot) := ⟨rfl, rfl, rfl, by decide +kernel, rfl, by decide +kernel, by decide +kernel⟩
abbrev s_are_spots : Stmt := topS 10
theorem sc_are_spots : FnScope ["value", "spots", "item"] ["value", "spots"] (defScope s_are_spots) := ⟨rfl, rfl, rfl, by decide +kernel, rfl, by decide +kernel, by decide +kernel⟩
abbrev s_spots_of_parts : Stmt := topS 11
theorem sc_spots_of_parts : FnScope ["pieces", "there", "piece", "parts", "part"] ["pieces"] (defScope s_spots_of_parts) := ⟨rfl, rfl, rfl, by decide +kernel, rfl, by decide +kernel, by decide +kernel⟩
abbrev s_is_prime : Stmt := topS 23
theorem sc_is_prime : FnScope ["value"] ["value"] (defScope s_is_prime) := ⟨rfl, rfl, rfl, by decide +kernel, rfl, by decide +kernel, by decide +kernel⟩
abbrev s_is_size : Stmt := topS 24
theorem sc_is_size : FnScope ["prime", "value"] ["prime", "value"] (defScope s_is_size) := ⟨rfl, rfl, rfl, by decide +kernel, rfl, by decide +kernel, by decide +kernel⟩
abbrev s_is_data : Stmt := topS 25
theorem sc_is_data : FnScope ["prime", "size", "value"] ["prime", "size", "value"] (defScope s_is_data) := ⟨rfl, rfl, rfl, by decide +kernel, rfl, by decide +kernel, by decide +kernel⟩
abbrev s_expect_prime_and_size : Stmt := topS 26
theorem sc_expect_prime_and_size : FnScope ["prime", "size"] ["prime", "size"] (defScope s_expect_prime_and_size) := ⟨rfl, rfl, rfl, by decide +kernel, rfl, by decide +kernel, by decide +kernel⟩
abbrev s_is_sum : Stmt := topS 27
theorem sc_is_sum : FnScope ["prime", "size", "value"] ["prime", "size", "value"] (defScope s_is_sum) := ⟨rfl, rfl, rfl, by decide +kernel, rfl, by decide +kernel, by decide +kernel⟩
abbrev s_Sum_init : Stmt := inClass (topS 28) 0
theorem sc_Sum_init : FnScope ["self", "prime", "factors"] ["self", "prime", "factors"] (defScope s_Sum_init) := ⟨rfl, rfl, rfl, by decide +kernel, rfl, by decide +kernel, by decide +kernel⟩
abbrev s_Sum_prime : Stmt := inClass (topS 28) 2
theorem sc_Sum_prime : FnScope ["self"] ["self"] (defScope s_Sum_prime) := ⟨rfl, rfl, rfl, by decide +kernel, rfl, by decide +kernel, by decide +kernel⟩
abbrev s_Sum_factors : Stmt := inClass (topS 28) 3
theorem sc_Sum_factors : FnScope ["self"] ["self"] (defScope s_Sum_factors) := ⟨rfl, rfl, rfl, by decide +kernel, rfl, by decide +kernel, by decide +kernel⟩
abbrev s_Sum_size : Stmt := inClass (topS 28) 4
theorem sc_Sum_size : FnScope ["self"] ["self"] (defScope s_Sum_size) := ⟨rfl, rfl, rfl, by decide +kernel, rfl, by decide +kernel, by decide +kernel⟩
abbrev s_Sum_call : Stmt := inClass (topS 28) 6
theorem sc_Sum_call : FnScope ["self", "data", "factor", "value"] ["self", "data"] (defScope s_Sum_call) := ⟨rfl, rfl, rfl, by decide +kernel, rfl, by decide +kernel, by decide +kernel⟩
abbrev s_Sum_add : Stmt := inClass (topS 28) 7
theorem sc_Sum_add : FnScope ["self", "other", "pairs", "one", "two"] ["self", "other"] (defScope s_Sum_add) := ⟨rfl, rfl, rfl, by decide +kernel, rfl, by decide +kernel, by decide +kernel⟩
abbrev s_Sum_mul : Stmt := inClass (topS 28) 9
theorem sc_Sum_mul : FnScope ["self", "other", "factor"] ["self", "other"] (defScope s_Sum_mul) := ⟨rfl, rfl, rfl, by decide +kernel, rfl, by decide +kernel, by decide +kernel⟩
abbrev s_Sum_eq : Stmt := inClass (topS 28) 11
theorem sc_Sum_eq : FnScope ["self", "other"] ["self", "other"] (defScope s_Sum_eq) := ⟨rfl, rfl, rfl, by decide +kernel, rfl, by decide +kernel, by decide +kernel⟩
abbrev s_minus : Stmt := topS 30
theorem sc_minus : FnScope ["prime", "row", "other", "times", "one", "two"] ["prime", "row", "other", "times"] (defScope s_minus) := ⟨rfl, rfl, rfl, by decide +kernel, rfl, by decide +kernel, by decide +kernel⟩
abbrev s_remainder : Stmt := topS 31
theorem sc_remainder : FnScope ["prime", "reduced", "row", "lead"] ["prime", "reduced", "row"] (defScope s_remainder) := ⟨rfl, rfl, rfl, by decide +kernel, rfl, by decide +kernel, by decide +kernel⟩
abbrev s_led_by_one : Stmt := topS 32
theorem sc_led_by_one : FnScope ["prime", "row", "first", "times", "factor", "number"] ["prime", "row"] (defScope s_led_by_one) := ⟨rfl, rfl, rfl, by decide +kernel, rfl, by decide +kernel, by decide +kernel⟩
abbrev s_reduced_rows : Stmt := topS 33
theorem sc_reduced_rows : FnScope ["prime", "rows", "reduced", "row", "rest", "lead", "others", "other"] ["prime", "rows"] (defScope s_reduced_rows) := ⟨rfl, rfl, rfl, by decide +kernel, rfl, by decide +kernel, by decide +kernel⟩
abbrev s_zero_row : Stmt := topS 34
theorem sc_zero_row : FnScope ["prime", "size", "reduced", "free", "forced", "row", "place"] ["prime", "size", "reduced", "free"] (defScope s_zero_row) := ⟨rfl, rfl, rfl, by decide +kernel, rfl, by decide +kernel, by decide +kernel⟩
abbrev s_zero_rows : Stmt := topS 35
theorem sc_zero_rows : FnScope ["prime", "size", "reduced", "leads", "rows", "row", "place"] ["prime", "size", "reduced"] (defScope s_zero_rows) := ⟨rfl, rfl, rfl, by decide +kernel, rfl, by decide +kernel, by decide +kernel⟩
abbrev s_blind_for : Stmt := topS 37
theorem sc_blind_for : FnScope ["space", "items", "rows", "leads", "data", "item"] ["space", "items"] (defScope s_blind_for) := ⟨rfl, rfl, rfl, by decide +kernel, rfl, by decide +kernel, by decide +kernel⟩
abbrev s_Space_init : Stmt := inClass (topS 38) 0
theorem sc_Space_init : FnScope ["self", "prime", "size", "sums", "item", "row"] ["self", "prime", "size", "sums"] (defScope s_Space_init) := ⟨rfl, rfl, rfl, by decide +kernel, rfl, by decide +kernel, by decide +kernel⟩
abbrev s_Space_prime : Stmt := inClass (topS 38) 1
theorem sc_Space_prime : FnScope ["self"] ["self"] (defScope s_Space_prime) := ⟨rfl, rfl, rfl, by decide +kernel, rfl, by decide +kernel, by decide +kernel⟩
abbrev s_Space_size : Stmt := inClass (topS 38) 2
theorem sc_Space_size : FnScope ["self"] ["self"] (defScope s_Space_size) := ⟨rfl, rfl, rfl, by decide +kernel, rfl, by decide +kernel, by decide +kernel⟩
abbrev s_Space_reduced_sums : Stmt := inClass (topS 38) 3
theorem sc_Space_reduced_sums : FnScope ["self"] ["self"] (defScope s_Space_reduced_sums) := ⟨rfl, rfl, rfl, by decide +kernel, rfl, by decide +kernel, by decide +kernel⟩
abbrev s_Space_is_whole : Stmt := inClass (topS 38) 4
theorem sc_Space_is_whole : FnScope ["self"] ["self"] (defScope s_Space_is_whole) := ⟨rfl, rfl, rfl, by decide +kernel, rfl, by decide +kernel, by decide +kernel⟩
abbrev s_Space_blind_data : Stmt := inClass (topS 38) 12
theorem sc_Space_blind_data : FnScope ["self", "item"] ["self", "item"] (defScope s_Space_blind_data) := ⟨rfl, rfl, rfl, by decide +kernel, rfl, by decide +kernel, by decide +kernel⟩
abbrev s_expect_question : Stmt := topS 40
theorem sc_expect_question : FnScope ["table", "spots", "item"] ["table", "spots", "item"] (defScope s_expect_question) := ⟨rfl, rfl, rfl, by decide +kernel, rfl, by decide +kernel, by decide +kernel⟩
abbrev s_combination_for : Stmt := topS 41
theorem sc_combination_for : FnScope ["table", "spots", "item", "rows", "wished", "rest", "factors", "spot", "factor", "_", "mark"] ["table", "spots", "item"] (defScope s_combination_for) := ⟨rfl, rfl, rfl, by decide +kernel, rfl, by decide +kernel, by decide +kernel⟩
abbrev s_is_combination : Stmt := topS 42
theorem sc_is_combination : FnScope ["table", "spots", "value", "item", "spot", "_"] ["table", "spots", "value"] (defScope s_is_combination) := ⟨rfl, rfl, rfl, by decide +kernel, rfl, by decide +kernel, by decide +kernel⟩
abbrev s_given_sum : Stmt := topS 43
theorem sc_given_sum : FnScope ["table", "combination", "total", "spot", "factor", "_"] ["table", "combination"] (defScope s_given_sum) := ⟨rfl, rfl, rfl, by decide +kernel, rfl, by decide +kernel, by decide +kernel⟩
abbrev s_is_blind : Stmt := topS 44
theorem sc_is_blind : FnScope ["table", "spots", "items", "value", "item", "spot"] ["table", "spots", "items", "value"] (defScope s_is_blind) := ⟨rfl, rfl, rfl, by decide +kernel, rfl, by decide +kernel, by decide +kernel⟩
abbrev s_have : Stmt := topS 45
theorem sc_have : FnScope ["table", "spots", "item", "combination"] ["table", "spots", "item"] (defScope s_have) := ⟨rfl, rfl, rfl, by decide +kernel, rfl, by decide +kernel, by decide +kernel⟩
abbrev s_is_have : Stmt := topS 46
theorem sc_is_have : FnScope ["table", "spots", "item", "value", "word", "told"] ["table", "spots", "item", "value"] (defScope s_is_have) := ⟨rfl, rfl, rfl, by decide +kernel, rfl, by decide +kernel, by decide +kernel⟩
abbrev s_expect_pieces : Stmt := topS 53
theorem sc_expect_pieces : FnScope ["prime", "size", "pieces", "piece", "parts", "part", "factors"] ["prime", "size", "pieces"] (defScope s_expect_pieces) := ⟨rfl, rfl, rfl, by decide +kernel, rfl, by decide +kernel, by decide +kernel⟩
abbrev s_Table_init : Stmt := inClass (topS 54) 0
theorem sc_Table_init : FnScope ["self", "prime", "size", "pieces", "parts", "piece", "part", "factors"] ["self", "prime", "size", "pieces"] (defScope s_Table_init) := ⟨rfl, rfl, rfl, by decide +kernel, rfl, by decide +kernel, by decide +kernel⟩
abbrev s_Table_prime : Stmt := inClass (topS 54) 1
theorem sc_Table_prime : FnScope ["self"] ["self"] (defScope s_Table_prime) := ⟨rfl, rfl, rfl, by decide +kernel, rfl, by decide +kernel, by decide +kernel⟩
abbrev s_Table_size : Stmt := inClass (topS 54) 2
theorem sc_Table_size : FnScope ["self"] ["self"] (defScope s_Table_size) := ⟨rfl, rfl, rfl, by decide +kernel, rfl, by decide +kernel, by decide +kernel⟩
abbrev s_Table_len : Stmt := inClass (topS 54) 5
theorem sc_Table_len : FnScope ["self"] ["self"] (defScope s_Table_len) := ⟨rfl, rfl, rfl, by decide +kernel, rfl, by decide +kernel, by decide +kernel⟩
abbrev s_Table_iter : Stmt := inClass (topS 54) 6
theorem sc_Table_iter : FnScope ["self"] ["self"] (defScope s_Table_iter) := ⟨rfl, rfl, rfl, by decide +kernel, rfl, by decide +kernel, by decide +kernel⟩
abbrev s_Table_getitem : Stmt := inClass (topS 54) 8
theorem sc_Table_getitem : FnScope ["self", "at"] ["self", "at"] (defScope s_Table_getitem) := ⟨rfl, rfl, rfl, by decide +kernel, rfl, by decide +kernel, by decide +kernel⟩
abbrev s_Table_space : Stmt := inClass (topS 54) 11
theorem sc_Table_space : FnScope ["self", "spots", "spot"] ["self", "spots"] (defScope s_Table_space) := ⟨rfl, rfl, rfl, by decide +kernel, rfl, by decide +kernel, by decide +kernel⟩
abbrev s_law_source : Stmt := topS 56
theorem sc_law_source : FnScope ["_law_script", "_law_turn", "_law_cell", "_law_number", "_law_seed"] ["_law_script", "_law_turn"] (defScope s_law_source) := ⟨rfl, rfl, rfl, by decide +kernel, rfl, by decide +kernel, by decide +kernel⟩
abbrev s_law_draw : Stmt := topS 57
theorem sc_law_draw : FnScope ["_law_source_here", "_law_amount", "_law_digit"] ["_law_source_here", "_law_amount"] (defScope s_law_draw) := ⟨rfl, rfl, rfl, by decide +kernel, rfl, by decide +kernel, by decide +kernel⟩
abbrev s_law_pick : Stmt := topS 58
theorem sc_law_pick : FnScope ["_law_source_here", "_law_items"] ["_law_source_here", "_law_items"] (defScope s_law_pick) := ⟨rfl, rfl, rfl, by decide +kernel, rfl, by decide +kernel, by decide +kernel⟩
abbrev s_law_value : Stmt := topS 60
theorem sc_law_value : FnScope ["_law_factors_here", "_law_data", "_law_prime", "_law_one", "_law_two"] ["_law_factors_here", "_law_data", "_law_prime"] (defScope s_law_value) := ⟨rfl, rfl, rfl, by decide +kernel, rfl, by decide +kernel, by decide +kernel⟩
abbrev s_law_factors : Stmt := topS 61
theorem sc_law_factors : FnScope ["_law_source_here", "_law_prime", "_law_size", "_law_place"] ["_law_source_here", "_law_prime", "_law_size"] (defScope s_law_factors) := ⟨rfl, rfl, rfl, by decide +kernel, rfl, by decide +kernel, by decide +kernel⟩
abbrev s_law_form : Stmt := topS 62
theorem sc_law_form : FnScope ["_law_source_here"] ["_law_source_here"] (defScope s_law_form) := ⟨rfl, rfl, rfl, by decide +kernel, rfl, by decide +kernel, by decide +kernel⟩
abbrev s_law_pieces : Stmt := topS 63
theorem sc_law_pieces : FnScope ["_law_source_here", "_law_prime", "_law_size", "_law_most", "_law_pieces_here", "_law_index", "_law_parts", "_law_part"] ["_law_source_here", "_law_prime", "_law_size", "_law_most"] (defScope s_law_pieces) := ⟨rfl, rfl, rfl, by decide +kernel, rfl, by decide +kernel, by decide +kernel⟩
abbrev s_law_spots : Stmt := topS 64
theorem sc_law_spots : FnScope ["_law_pieces_here", "_law_found", "_law_piece", "_law_part"] ["_law_pieces_here"] (defScope s_law_spots) := ⟨rfl, rfl, rfl, by decide +kernel, rfl, by decide +kernel, by decide +kernel⟩
abbrev s_law_some : Stmt := topS 66
theorem sc_law_some : FnScope ["_law_source_here", "_law_items", "_law_chance", "_law_item"] ["_law_source_here", "_law_items", "_law_chance"] (defScope s_law_some) := ⟨rfl, rfl, rfl, by decide +kernel, rfl, by decide +kernel, by decide +kernel⟩
abbrev s_law_shown : Stmt := topS 67
theorem sc_law_shown : FnScope ["_law_pieces_here", "_law_spot", "_law_data", "_law_prime"] ["_law_pieces_here", "_law_spot", "_law_data", "_law_prime"] (defScope s_law_shown) := ⟨rfl, rfl, rfl, by decide +kernel, rfl, by decide +kernel, by decide +kernel⟩
abbrev s_law_is_pair : Stmt := topS 70
theorem sc_law_is_pair : FnScope ["_law_spots_here", "_law_prime", "_law_value_here", "_law_factor"] ["_law_spots_here", "_law_prime", "_law_value_here"] (defScope s_law_is_pair) := ⟨rfl, rfl, rfl, by decide +kernel, rfl, by decide +kernel, by decide +kernel⟩
abbrev s_law_accepts : Stmt := topS 71
theorem sc_law_accepts : FnScope ["_law_prime", "_law_pieces_here", "_law_spots_here", "_law_factors_here", "_law_value_here", "_law_places", "_law_found", "_law_digits", "_law_spot", "_law_factor", "_law_item", "_law_number", "_law_one", "_law_two"] ["_law_prime", "_law_pieces_here", "_law_spots_here", "_law_factors_here", "_law_value_here"] (defScope s_law_accepts) := ⟨rfl, rfl, rfl, by decide +kernel, rfl, by decide +kernel, by decide +kernel⟩
abbrev s_law_bent : Stmt := topS 72
theorem sc_law_bent : FnScope ["_law_source_here", "_law_prime", "_law_size", "_law_spots_here", "_law_value_here", "_law_data", "_law_parts", "_law_some_here", "_law_spot"] ["_law_source_here", "_law_prime", "_law_size", "_law_spots_here", "_law_value_here"] (defScope s_law_bent) := ⟨rfl, rfl, rfl, by decide +kernel, rfl, by decide +kernel, by decide +kernel⟩
abbrev s_law : Stmt := topS 73
theorem sc_law : FnScope ["_law_script", "_law_turn", "_law_source_here", "_law_pieces_here", "_law_table", "_law_attempt", "_law_prime", "_law_size", "_law_item", "_law_told", "_law_value_here", "_law_spots_here", "_law_factors_here"] ["_law_script"] (defScope s_law) := ⟨rfl, rfl, rfl, by decide +kernel, rfl, by decide +kernel, by decide +kernel⟩
/-- the primes, each with its greatest size -/
def gsz (p : Int) : Option Int := if p = 2 then some 6 else if p = 3 then some 6 else if p = 5 then some 5 else if p = 7 then some 4 else none
structure Tx (P : Program) (w : World) (K : PySem.W.Frag) (mg : Str → Option Value) where
  a_is_integer : Addr
  f_is_integer : FuncData
  F_is_integer : Fun K "is_integer" "is_integer" s_is_integer a_is_integer f_is_integer
  b_is_integer : Binds K f_is_integer ["value"] []
  g_is_integer : mg "is_integer" = some (.ref a_is_integer)
  a_is_between : Addr
  f_is_between : FuncData
  F_is_between : Fun K "is_between" "is_between" s_is_between a_is_between f_is_between
  b_is_between : Binds K f_is_between ["value", "low", "high"] []
  g_is_between : mg "is_between" = some (.ref a_is_between)
  a_has_items : Addr
  f_has_items : FuncData
  F_has_items : Fun K "has_items" "has_items" s_has_items a_has_items f_has_items
  b_has_items : Binds K f_has_items ["value", "least", "most"] []
  g_has_items : mg "has_items" = some (.ref a_has_items)
  a_all_between : Addr
  f_all_between : FuncData
  F_all_between : Fun K "all_between" "all_between" s_all_between a_all_between f_all_between
  b_all_between : Binds K f_all_between ["items", "low", "high"] []
  g_all_between : mg "all_between" = some (.ref a_all_between)
  a_is_ascending : Addr
  f_is_ascending : FuncData
  F_is_ascending : Fun K "is_ascending" "is_ascending" s_is_ascending a_is_ascending f_is_ascending
  b_is_ascending : Binds K f_is_ascending ["items"] []
  g_is_ascending : mg "is_ascending" = some (.ref a_is_ascending)
  a_is_spot : Addr
  f_is_spot : FuncData
  F_is_spot : Fun K "is_spot" "is_spot" s_is_spot a_is_spot f_is_spot
  b_is_spot : Binds K f_is_spot ["value", "spots"] []
  g_is_spot : mg "is_spot" = some (.ref a_is_spot)
  a_are_spots : Addr
  f_are_spots : FuncData
  F_are_spots : Fun K "are_spots" "are_spots" s_are_spots a_are_spots f_are_spots
  b_are_spots : Binds K f_are_spots ["value", "spots"] []
  g_are_spots : mg "are_spots" = some (.ref a_are_spots)
  a_spots_of_parts : Addr
  f_spots_of_parts : FuncData
  F_spots_of_parts : Fun K "spots_of_parts" "spots_of_parts" s_spots_of_parts a_spots_of_parts f_spots_of_parts
  b_spots_of_parts : Binds K f_spots_of_parts ["pieces"] []
  g_spots_of_parts : mg "spots_of_parts" = some (.ref a_spots_of_parts)
  a_is_prime : Addr
  f_is_prime : FuncData
  F_is_prime : Fun K "is_prime" "is_prime" s_is_prime a_is_prime f_is_prime
  b_is_prime : Binds K f_is_prime ["value"] []
  g_is_prime : mg "is_prime" = some (.ref a_is_prime)
  a_is_size : Addr
  f_is_size : FuncData
  F_is_size : Fun K "is_size" "is_size" s_is_size a_is_size f_is_size
  b_is_size : Binds K f_is_size ["prime", "value"] []
  g_is_size : mg "is_size" = some (.ref a_is_size)
  a_is_data : Addr
  f_is_data : FuncData
  F_is_data : Fun K "is_data" "is_data" s_is_data a_is_data f_is_data
  b_is_data : Binds K f_is_data ["prime", "size", "value"] []
  g_is_data : mg "is_data" = some (.ref a_is_data)
  a_expect_prime_and_size : Addr
  f_expect_prime_and_size : FuncData
  F_expect_prime_and_size : Fun K "expect_prime_and_size" "expect_prime_and_size" s_expect_prime_and_size a_expect_prime_and_size f_expect_prime_and_size
  b_expect_prime_and_size : Binds K f_expect_prime_and_size ["prime", "size"] []
  g_expect_prime_and_size : mg "expect_prime_and_size" = some (.ref a_expect_prime_and_size)
  a_is_sum : Addr
  f_is_sum : FuncData
  F_is_sum : Fun K "is_sum" "is_sum" s_is_sum a_is_sum f_is_sum
  b_is_sum : Binds K f_is_sum ["prime", "size", "value"] []
  g_is_sum : mg "is_sum" = some (.ref a_is_sum)
  a_Sum_init : Addr
  f_Sum_init : FuncData
  F_Sum_init : Fun K "__init__" "Sum.__init__" s_Sum_init a_Sum_init f_Sum_init
  b_Sum_init : Binds K f_Sum_init ["self", "prime", "factors"] []
  a_Sum_prime : Addr
  f_Sum_prime : FuncData
  F_Sum_prime : Fun K "prime" "Sum.prime" s_Sum_prime a_Sum_prime f_Sum_prime
  b_Sum_prime : Binds K f_Sum_prime ["self"] []
  a_Sum_factors : Addr
  f_Sum_factors : FuncData
  F_Sum_factors : Fun K "factors" "Sum.factors" s_Sum_factors a_Sum_factors f_Sum_factors
  b_Sum_factors : Binds K f_Sum_factors ["self"] []
  a_Sum_size : Addr
  f_Sum_size : FuncData
  F_Sum_size : Fun K "size" "Sum.size" s_Sum_size a_Sum_size f_Sum_size
  b_Sum_size : Binds K f_Sum_size ["self"] []
  a_Sum_call : Addr
  f_Sum_call : FuncData
  F_Sum_call : Fun K "__call__" "Sum.__call__" s_Sum_call a_Sum_call f_Sum_call
  b_Sum_call : Binds K f_Sum_call ["self", "data"] []
  a_Sum_add : Addr
  f_Sum_add : FuncData
  F_Sum_add : Fun K "__add__" "Sum.__add__" s_Sum_add a_Sum_add f_Sum_add
  b_Sum_add : Binds K f_Sum_add ["self", "other"] []
  a_Sum_mul : Addr
  f_Sum_mul : FuncData
  F_Sum_mul : Fun K "__mul__" "Sum.__mul__" s_Sum_mul a_Sum_mul f_Sum_mul
  b_Sum_mul : Binds K f_Sum_mul ["self", "other"] []
  a_Sum_eq : Addr
  f_Sum_eq : FuncData
  F_Sum_eq : Fun K "__eq__" "Sum.__eq__" s_Sum_eq a_Sum_eq f_Sum_eq
  b_Sum_eq : Binds K f_Sum_eq ["self", "other"] []
  a_minus : Addr
  f_minus : FuncData
  F_minus : Fun K "minus" "minus" s_minus a_minus f_minus
  b_minus : Binds K f_minus ["prime", "row", "other", "times"] []
  g_minus : mg "minus" = some (.ref a_minus)
  a_remainder : Addr
  f_remainder : FuncData
  F_remainder : Fun K "remainder" "remainder" s_remainder a_remainder f_remainder
  b_remainder : Binds K f_remainder ["prime", "reduced", "row"] []
  g_remainder : mg "remainder" = some (.ref a_remainder)
  a_led_by_one : Addr
  f_led_by_one : FuncData
  F_led_by_one : Fun K "led_by_one" "led_by_one" s_led_by_one a_led_by_one f_led_by_one
  b_led_by_one : Binds K f_led_by_one ["prime", "row"] []
  g_led_by_one : mg "led_by_one" = some (.ref a_led_by_one)
  a_reduced_rows : Addr
  f_reduced_rows : FuncData
  F_reduced_rows : Fun K "reduced_rows" "reduced_rows" s_reduced_rows a_reduced_rows f_reduced_rows
  b_reduced_rows : Binds K f_reduced_rows ["prime", "rows"] []
  g_reduced_rows : mg "reduced_rows" = some (.ref a_reduced_rows)
  a_zero_row : Addr
  f_zero_row : FuncData
  F_zero_row : Fun K "zero_row" "zero_row" s_zero_row a_zero_row f_zero_row
  b_zero_row : Binds K f_zero_row ["prime", "size", "reduced", "free"] []
  g_zero_row : mg "zero_row" = some (.ref a_zero_row)
  a_zero_rows : Addr
  f_zero_rows : FuncData
  F_zero_rows : Fun K "zero_rows" "zero_rows" s_zero_rows a_zero_rows f_zero_rows
  b_zero_rows : Binds K f_zero_rows ["prime", "size", "reduced"] []
  g_zero_rows : mg "zero_rows" = some (.ref a_zero_rows)
  a_blind_for : Addr
  f_blind_for : FuncData
  F_blind_for : Fun K "blind_for" "blind_for" s_blind_for a_blind_for f_blind_for
  b_blind_for : Binds K f_blind_for ["space", "items"] []
  g_blind_for : mg "blind_for" = some (.ref a_blind_for)
  dE_Space_init : Addr
  a_Space_init : Addr
  f_Space_init : FuncData
  F_Space_init : FunD K "__init__" "Space.__init__" (defArgs s_Space_init) (defBody s_Space_init) (defScope s_Space_init) [V.ref dE_Space_init] [] a_Space_init f_Space_init
  b_Space_init : Binds K f_Space_init ["self", "prime", "size", "sums"] []
  a_Space_prime : Addr
  f_Space_prime : FuncData
  F_Space_prime : Fun K "prime" "Space.prime" s_Space_prime a_Space_prime f_Space_prime
  b_Space_prime : Binds K f_Space_prime ["self"] []
  a_Space_size : Addr
  f_Space_size : FuncData
  F_Space_size : Fun K "size" "Space.size" s_Space_size a_Space_size f_Space_size
  b_Space_size : Binds K f_Space_size ["self"] []
  a_Space_reduced_sums : Addr
  f_Space_reduced_sums : FuncData
  F_Space_reduced_sums : Fun K "reduced_sums" "Space.reduced_sums" s_Space_reduced_sums a_Space_reduced_sums f_Space_reduced_sums
  b_Space_reduced_sums : Binds K f_Space_reduced_sums ["self"] []
  a_Space_is_whole : Addr
  f_Space_is_whole : FuncData
  F_Space_is_whole : Fun K "is_whole" "Space.is_whole" s_Space_is_whole a_Space_is_whole f_Space_is_whole
  b_Space_is_whole : Binds K f_Space_is_whole ["self"] []
  a_Space_blind_data : Addr
  f_Space_blind_data : FuncData
  F_Space_blind_data : Fun K "blind_data" "Space.blind_data" s_Space_blind_data a_Space_blind_data f_Space_blind_data
  b_Space_blind_data : Binds K f_Space_blind_data ["self", "item"] []
  a_expect_question : Addr
  f_expect_question : FuncData
  F_expect_question : Fun K "expect_question" "expect_question" s_expect_question a_expect_question f_expect_question
  b_expect_question : Binds K f_expect_question ["table", "spots", "item"] []
  g_expect_question : mg "expect_question" = some (.ref a_expect_question)
  a_combination_for : Addr
  f_combination_for : FuncData
  F_combination_for : Fun K "combination_for" "combination_for" s_combination_for a_combination_for f_combination_for
  b_combination_for : Binds K f_combination_for ["table", "spots", "item"] []
  g_combination_for : mg "combination_for" = some (.ref a_combination_for)
  a_is_combination : Addr
  f_is_combination : FuncData
  F_is_combination : Fun K "is_combination" "is_combination" s_is_combination a_is_combination f_is_combination
  b_is_combination : Binds K f_is_combination ["table", "spots", "value"] []
  g_is_combination : mg "is_combination" = some (.ref a_is_combination)
  a_given_sum : Addr
  f_given_sum : FuncData
  F_given_sum : Fun K "given_sum" "given_sum" s_given_sum a_given_sum f_given_sum
  b_given_sum : Binds K f_given_sum ["table", "combination"] []
  g_given_sum : mg "given_sum" = some (.ref a_given_sum)
  a_is_blind : Addr
  f_is_blind : FuncData
  F_is_blind : Fun K "is_blind" "is_blind" s_is_blind a_is_blind f_is_blind
  b_is_blind : Binds K f_is_blind ["table", "spots", "items", "value"] []
  g_is_blind : mg "is_blind" = some (.ref a_is_blind)
  a_have : Addr
  f_have : FuncData
  F_have : Fun K "have" "have" s_have a_have f_have
  b_have : Binds K f_have ["table", "spots", "item"] []
  g_have : mg "have" = some (.ref a_have)
  a_is_have : Addr
  f_is_have : FuncData
  F_is_have : Fun K "is_have" "is_have" s_is_have a_is_have f_is_have
  b_is_have : Binds K f_is_have ["table", "spots", "item", "value"] []
  g_is_have : mg "is_have" = some (.ref a_is_have)
  a_expect_pieces : Addr
  f_expect_pieces : FuncData
  F_expect_pieces : Fun K "expect_pieces" "expect_pieces" s_expect_pieces a_expect_pieces f_expect_pieces
  b_expect_pieces : Binds K f_expect_pieces ["prime", "size", "pieces"] []
  g_expect_pieces : mg "expect_pieces" = some (.ref a_expect_pieces)
  a_Table_init : Addr
  f_Table_init : FuncData
  F_Table_init : Fun K "__init__" "Table.__init__" s_Table_init a_Table_init f_Table_init
  b_Table_init : Binds K f_Table_init ["self", "prime", "size", "pieces"] []
  a_Table_prime : Addr
  f_Table_prime : FuncData
  F_Table_prime : Fun K "prime" "Table.prime" s_Table_prime a_Table_prime f_Table_prime
  b_Table_prime : Binds K f_Table_prime ["self"] []
  a_Table_size : Addr
  f_Table_size : FuncData
  F_Table_size : Fun K "size" "Table.size" s_Table_size a_Table_size f_Table_size
  b_Table_size : Binds K f_Table_size ["self"] []
  a_Table_len : Addr
  f_Table_len : FuncData
  F_Table_len : Fun K "__len__" "Table.__len__" s_Table_len a_Table_len f_Table_len
  b_Table_len : Binds K f_Table_len ["self"] []
  a_Table_iter : Addr
  f_Table_iter : FuncData
  F_Table_iter : Fun K "__iter__" "Table.__iter__" s_Table_iter a_Table_iter f_Table_iter
  b_Table_iter : Binds K f_Table_iter ["self"] []
  a_Table_getitem : Addr
  f_Table_getitem : FuncData
  F_Table_getitem : Fun K "__getitem__" "Table.__getitem__" s_Table_getitem a_Table_getitem f_Table_getitem
  b_Table_getitem : Binds K f_Table_getitem ["self", "at"] []
  a_Table_space : Addr
  f_Table_space : FuncData
  F_Table_space : FunD K "space" "Table.space" (defArgs s_Table_space) (defBody s_Table_space) (defScope s_Table_space) [V.non] [] a_Table_space f_Table_space
  b_Table_space : Binds K f_Table_space ["self", "spots"] []
  a_law_source : Addr
  f_law_source : FuncData
  F_law_source : Fun K "_law_source" "_law_source" s_law_source a_law_source f_law_source
  b_law_source : Binds K f_law_source ["_law_script", "_law_turn"] []
  g_law_source : mg "_law_source" = some (.ref a_law_source)
  a_law_draw : Addr
  f_law_draw : FuncData
  F_law_draw : Fun K "_law_draw" "_law_draw" s_law_draw a_law_draw f_law_draw
  b_law_draw : Binds K f_law_draw ["_law_source_here", "_law_amount"] []
  g_law_draw : mg "_law_draw" = some (.ref a_law_draw)
  a_law_pick : Addr
  f_law_pick : FuncData
  F_law_pick : Fun K "_law_pick" "_law_pick" s_law_pick a_law_pick f_law_pick
  b_law_pick : Binds K f_law_pick ["_law_source_here", "_law_items"] []
  g_law_pick : mg "_law_pick" = some (.ref a_law_pick)
  a_law_value : Addr
  f_law_value : FuncData
  F_law_value : Fun K "_law_value" "_law_value" s_law_value a_law_value f_law_value
  b_law_value : Binds K f_law_value ["_law_factors_here", "_law_data", "_law_prime"] []
  g_law_value : mg "_law_value" = some (.ref a_law_value)
  a_law_factors : Addr
  f_law_factors : FuncData
  F_law_factors : Fun K "_law_factors" "_law_factors" s_law_factors a_law_factors f_law_factors
  b_law_factors : Binds K f_law_factors ["_law_source_here", "_law_prime", "_law_size"] []
  g_law_factors : mg "_law_factors" = some (.ref a_law_factors)
  a_law_form : Addr
  f_law_form : FuncData
  F_law_form : Fun K "_law_form" "_law_form" s_law_form a_law_form f_law_form
  b_law_form : Binds K f_law_form ["_law_source_here"] []
  g_law_form : mg "_law_form" = some (.ref a_law_form)
  a_law_pieces : Addr
  f_law_pieces : FuncData
  F_law_pieces : Fun K "_law_pieces" "_law_pieces" s_law_pieces a_law_pieces f_law_pieces
  b_law_pieces : Binds K f_law_pieces ["_law_source_here", "_law_prime", "_law_size", "_law_most"] []
  g_law_pieces : mg "_law_pieces" = some (.ref a_law_pieces)
  a_law_spots : Addr
  f_law_spots : FuncData
  F_law_spots : Fun K "_law_spots" "_law_spots" s_law_spots a_law_spots f_law_spots
  b_law_spots : Binds K f_law_spots ["_law_pieces_here"] []
  g_law_spots : mg "_law_spots" = some (.ref a_law_spots)
  a_law_some : Addr
  f_law_some : FuncData
  F_law_some : Fun K "_law_some" "_law_some" s_law_some a_law_some f_law_some
  b_law_some : Binds K f_law_some ["_law_source_here", "_law_items", "_law_chance"] []
  g_law_some : mg "_law_some" = some (.ref a_law_some)
  a_law_shown : Addr
  f_law_shown : FuncData
  F_law_shown : Fun K "_law_shown" "_law_shown" s_law_shown a_law_shown f_law_shown
  b_law_shown : Binds K f_law_shown ["_law_pieces_here", "_law_spot", "_law_data", "_law_prime"] []
  g_law_shown : mg "_law_shown" = some (.ref a_law_shown)
  a_law_is_pair : Addr
  f_law_is_pair : FuncData
  F_law_is_pair : Fun K "_law_is_pair" "_law_is_pair" s_law_is_pair a_law_is_pair f_law_is_pair
  b_law_is_pair : Binds K f_law_is_pair ["_law_spots_here", "_law_prime", "_law_value_here"] []
  g_law_is_pair : mg "_law_is_pair" = some (.ref a_law_is_pair)
  a_law_accepts : Addr
  f_law_accepts : FuncData
  F_law_accepts : Fun K "_law_accepts" "_law_accepts" s_law_accepts a_law_accepts f_law_accepts
  b_law_accepts : Binds K f_law_accepts ["_law_prime", "_law_pieces_here", "_law_spots_here", "_law_factors_here", "_law_value_here"] []
  g_law_accepts : mg "_law_accepts" = some (.ref a_law_accepts)
  a_law_bent : Addr
  f_law_bent : FuncData
  F_law_bent : Fun K "_law_bent" "_law_bent" s_law_bent a_law_bent f_law_bent
  b_law_bent : Binds K f_law_bent ["_law_source_here", "_law_prime", "_law_size", "_law_spots_here", "_law_value_here"] []
  g_law_bent : mg "_law_bent" = some (.ref a_law_bent)
  a_law : Addr
  f_law : FuncData
  F_law : Fun K "law" "law" s_law a_law f_law
  b_law : Binds K f_law ["_law_script"] []
  g_law : mg "law" = some (.ref a_law)
  a_Sum : Addr
  g_Sum : mg "Sum" = some (.ref a_Sum)
  a_Space : Addr
  g_Space : mg "Space" = some (.ref a_Space)
  a_Table : Addr
  g_Table : mg "Table" = some (.ref a_Table)
  n_isinstance : mg "isinstance" = none
  n_int : mg "int" = none
  n_repr : mg "repr" = none
  n_str : mg "str" = none
  n_bool : mg "bool" = none
  n_list : mg "list" = none
  n_tuple : mg "tuple" = none
  n_len : mg "len" = none
  n_all : mg "all" = none
  n_any : mg "any" = none
  n_sum : mg "sum" = none
  n_zip : mg "zip" = none
  n_max : mg "max" = none
  n_min : mg "min" = none
  n_range : mg "range" = none
  n_sorted : mg "sorted" = none
  n_enumerate : mg "enumerate" = none
  n_reversed : mg "reversed" = none
  n_iter : mg "iter" = none
  n_set : mg "set" = none
  c_Sum : ClsI K a_Sum
  m_Sum : Mk K a_Sum a_Sum_init
  call_Sum : StX.CallO K a_Sum a_Sum_call
  c_Space : ClsI K a_Space
  m_Space : Mk K a_Space a_Space_init
  nf_Sum : PySem.W.notFirst K a_Sum (.ref a_Sum) = true
  kt_Sum : PySem.W.kitOne K (.ref a_Sum) (.ref a_Sum) = some true
  sf_Sum : PySem.W.selfFirst K a_Sum = true
  o_add : PySem.W.findIn K (.ref a_Sum) "__add__" = some (some (.ref a_Sum_add))
  i_add : PySem.W.isFn K (.ref a_Sum_add) = true
  o_mul : PySem.W.findIn K (.ref a_Sum) "__mul__" = some (some (.ref a_Sum_mul))
  i_mul : PySem.W.isFn K (.ref a_Sum_mul) = true
  o_rmul : PySem.W.findIn K (.ref a_Sum) "__rmul__" = some none
  ii_mul : ∃ fo, PySem.W.findIn K (.type "int") "__mul__" = some fo
  ii_rmul : ∃ fo, PySem.W.findIn K (.type "int") "__rmul__" = some fo
  ii_sub : PySem.W.subIn K (.type "int") (.ref a_Sum) = some false
  o_eq : PySem.W.findIn K (.ref a_Sum) "__eq__" = some (some (.ref a_Sum_eq))
  i_eq : PySem.W.isFn K (.ref a_Sum_eq) = true
  c_Table : ClsI K a_Table
  m_Table : Mk K a_Table a_Table_init
  it_Table : IterC K a_Table a_Table_iter a_Table_len
  gi_Table : PySem.W.findIn K (.ref a_Table) "__getitem__" = some (some (.ref a_Table_getitem))
  gf_Table : PySem.W.fnIn K a_Table_getitem = true
  gn_Table : PySem.W.isFn K (.ref a_Table_getitem) = true
  me_space : Meth K a_Table "space" a_Table_space
  me_blind : Meth K a_Space "blind_data" a_Space_blind_data
  dv_Table_space : List Value
  bd_Table_space : Binds K f_Table_space ["self", "spots"] dv_Table_space
  bv_Table_space : Vals [V.non] dv_Table_space
  a_GS : Addr
  g_GS : mg "GREATEST_SIZES" = some (.ref a_GS)
  d_GS : IntD K P w a_GS gsz
  kt_NoneType : PySem.W.kitOne K (.type "NoneType") (.ref a_Sum) = some false
  kt_int : PySem.W.kitOne K (.type "int") (.ref a_Sum) = some false
  kt_str : PySem.W.kitOne K (.type "str") (.ref a_Sum) = some false
  kt_tuple : PySem.W.kitOne K (.type "tuple") (.ref a_Sum) = some false
  kt_list : PySem.W.kitOne K (.type "list") (.ref a_Sum) = some false
  nb_prime : NoAttr K a_Table "_prime"
  nb_size : NoAttr K a_Table "_size"
  nb_pieces : NoAttr K a_Table "_pieces"
  nb_spots : NoAttr K a_Table "_spots"
  nb_sums : NoAttr K a_Table "_sums"
  nb_whole : NoAttr K a_Table "_whole"
  t_MOST_PIECES : Tok
  g_MOST_PIECES : mg "MOST_PIECES" = some (.int 6 t_MOST_PIECES)
  t_MOST_PARTS : Tok
  g_MOST_PARTS : mg "MOST_PARTS" = some (.int 3 t_MOST_PARTS)
  t_MOST_PARTS_IN_ALL : Tok
  g_MOST_PARTS_IN_ALL : mg "MOST_PARTS_IN_ALL" = some (.int 10 t_MOST_PARTS_IN_ALL)
  na_prime : NoAttr K a_Sum "_prime"
  na_factors : NoAttr K a_Sum "_factors"
  ns_prime : NoAttr K a_Space "_prime"
  ns_size : NoAttr K a_Space "_size"
  ns_rows : NoAttr K a_Space "_rows"
  ns_reduced : NoAttr K a_Space "_reduced"
  q_Sum_prime : Addr
  pp_Sum_prime : PropOf K a_Sum "prime" q_Sum_prime a_Sum_prime
  q_Sum_factors : Addr
  pp_Sum_factors : PropOf K a_Sum "factors" q_Sum_factors a_Sum_factors
  q_Sum_size : Addr
  pp_Sum_size : PropOf K a_Sum "size" q_Sum_size a_Sum_size
  q_Space_prime : Addr
  pp_Space_prime : PropOf K a_Space "prime" q_Space_prime a_Space_prime
  q_Space_size : Addr
  pp_Space_size : PropOf K a_Space "size" q_Space_size a_Space_size
  q_Space_reduced_sums : Addr
  pp_Space_reduced_sums : PropOf K a_Space "reduced_sums" q_Space_reduced_sums a_Space_reduced_sums
  q_Space_is_whole : Addr
  pp_Space_is_whole : PropOf K a_Space "is_whole" q_Space_is_whole a_Space_is_whole
  q_Table_prime : Addr
  pp_Table_prime : PropOf K a_Table "prime" q_Table_prime a_Table_prime
  q_Table_size : Addr
  pp_Table_size : PropOf K a_Table "size" q_Table_size a_Table_size
theorem gsz_pos {p g : Int} (h : gsz p = some g) : 2 ≤ p ∧ p ≤ 7 ∧ g ≤ 6 := by
  unfold gsz at h
  split at h
  · cases h; omega
  split at h
  · cases h; omega
  split at h
  · cases h; omega
  split at h
  · cases h; omega
  · cases h
/-- factors of a sum; data -/
def In (p : Int) (xs : List Int) : Prop := ∀ x ∈ xs, 0 ≤ x ∧ x < p
def SumOk (p : Int) (fs : List Int) : Prop := ∃ g, gsz p = some g ∧ 1 ≤ (fs.length : Int) ∧ (fs.length : Int) ≤ g ∧ In p fs
def dSum (C : Addr) (p : Int) (f : D) : D := .ins C [("_prime", .int p), ("_factors", f)]
/-- a tuple of these ints, in either form -/
def Fs (f : D) (fs : List Int) : Prop := fgD f = .tup (dI fs)
theorem In.all {p : Int} {xs : List Int} (h : In p xs) : (xs.all fun x => decide (0 ≤ x) && decide (x ≤ p - 1)) = true := by
  rw [List.all_eq_true]
  intro x hx
  have := h x hx
  simp only [Bool.and_eq_true, decide_eq_true_eq]
  omega
end K11
set_option Elab.async false
set_option linter.all false
set_option maxRecDepth 100000
set_option maxHeartbeats 4000000
namespace K11
open PySem PySem.Spec PyProof.Rows L2 Pd
section
variable {P : Program} {w : World} {K : PySem.W.Frag} {mg : Str → Option Value} {base : Heap}
def W_is_integer : DC := fun ds M Q => ∃ d t, ds = [d] ∧ tyN d = some t ∧ Q (.bl (isI d)) M
theorem ok_is_integer (T : Tx P w K mg) : FnOk P w K mg base CX0 1 T.a_is_integer T.f_is_integer ["value"] (spD 1 W_is_integer K) := by
  refine pd_fn T.F_is_integer sc_is_integer (fun cdv A outer s H E hr => ⟨_, (pdss_one (pds_ret (pd_and (pd_callB call_isi sc_isi (by rfl) T.n_isinstance (by decide +kernel) (pda_cons (pd_name 0) (pda_cons (pd_bltn (v := .ty "int") (d := .ty "int") (by rfl) T.n_int (by decide +kernel) rfl (fun _ _ => .ty _)) pda_nil))) (pd_one (pd_not (pd_callB call_isi sc_isi (by rfl) T.n_isinstance (by decide +kernel) (pda_cons (pd_name 0) (pda_cons (pd_bltn (v := .ty "bool") (d := .ty "bool") (by rfl) T.n_bool (by decide +kernel) rfl (fun _ _ => .ty _)) pda_nil)))))))), fun ds M Q hl h => ?_⟩)
  obtain ⟨d, t, rfl, ht, q⟩ := h
  refine ⟨d, rfl, ?_⟩
  have hd := dty (K := K) ht
  cases d <;> simp only [tyN, Option.some.injEq, reduceCtorEq] at ht <;> subst ht
  case int i =>
    refine ⟨_, _, _, _, _, true, rfl, hd, .ty "int", kit_ty (by decide +kernel), _, rfl, ?_⟩
    refine ⟨_, rfl, _, _, _, _, _, false, rfl, hd, .ty "bool", kit_ty (by decide +kernel), _, rfl, q⟩
  case bl b =>
    refine ⟨_, _, _, _, _, true, rfl, hd, .ty "int", kit_ty (by decide +kernel), _, rfl, ?_⟩
    refine ⟨_, rfl, _, _, _, _, _, true, rfl, hd, .ty "bool", kit_ty (by decide +kernel), _, rfl, q⟩
  all_goals
    refine ⟨_, _, _, _, _, false, rfl, hd, .ty "int", kit_ty (by decide +kernel), _, rfl, q⟩
def W_is_between : DC := fun ds M Q => ∃ d t lo hi, ds = [d, .int lo, .int hi] ∧ tyN d = some t ∧ (∀ i, d = .int i → Q (.bl (decide (lo ≤ i) && decide (i ≤ hi))) M) ∧ (isI d = false → Q (.bl false) M)
theorem ok_is_between (T : Tx P w K mg) : FnOk P w K mg base CX0 2 T.a_is_between T.f_is_between ["value", "low", "high"] (spD 3 W_is_between K) := by
  refine pd_fn T.F_is_between sc_is_between (fun cdv A outer s H E hr => ⟨_, (pdss_one (pds_ret (pd_and (pd_call (ok_is_integer T) (hr.mono (by decide)) (by rfl) T.g_is_integer T.F_is_integer.kp T.b_is_integer (pda_cons (pd_name 0) pda_nil)) (pd_one (pd_chain op_le sr_I0b op_le sr_I0b (pd_name 1) (pd_name 0) (pd_name 2)))))), fun ds M Q hl h => ?_⟩)
  obtain ⟨d, t, lo, hi, rfl, ht, q1, q2⟩ := h
  refine ⟨d, rfl, rfl, d, t, rfl, ht, _, rfl, ?_⟩
  cases e : isI d with
  | false => exact q2 e
  | true =>
    cases d <;> simp only [isI, reduceCtorEq] at e
    rename_i i
    refine ⟨_, rfl, _, rfl, _, _, rfl, rfl, _, rfl, ?_⟩
    have q := q1 i rfl
    by_cases h1 : lo ≤ i
    · rw [decide_eq_true h1] at q ⊢
      exact ⟨_, rfl, _, _, rfl, rfl, q⟩
    · rw [decide_eq_false h1] at q ⊢
      exact q
def W_has_items : DC := fun ds M Q => ∃ d xs lo hi, ds = [d, .int lo, .int hi] ∧ isSeq d xs ∧ Q (.bl (decide (lo ≤ (xs.length : Int)) && decide ((xs.length : Int) ≤ hi))) M
theorem ok_has_items (T : Tx P w K mg) : FnOk P w K mg base CX0 1 T.a_has_items T.f_has_items ["value", "least", "most"] (spD 3 W_has_items K) := by
  refine pd_fn T.F_has_items sc_has_items (fun cdv A outer s H E hr => ⟨_, (pdss_one (pds_ret (pd_and (pd_isi2 (T1 := "list") (T2 := "tuple") (by rfl) T.n_isinstance (pd_name 0) (by rfl) T.n_list (by decide +kernel) (by rfl) T.n_tuple (by decide +kernel)) (pd_one (pd_chain op_le sr_I0b op_le sr_I0b (pd_name 1) (pd_callB call_len_seq sc_len (by rfl) T.n_len (by decide +kernel) (pda_cons (pd_name 0) pda_nil)) (pd_name 2)))))), fun ds M Q hl h => ?_⟩)
  obtain ⟨d, xs, lo, hi, rfl, hs, q⟩ := h
  obtain ⟨t, h1, h2⟩ : ∃ t, DTy K d (.type t) ∧ PySem.W.kitAny K (.type t) [.type "list", .type "tuple"] = some true := by
    rcases hs with rfl | rfl
    · exact ⟨"list", .lst _, rfl⟩
    · exact ⟨"tuple", .tup _, rfl⟩
  refine ⟨d, rfl, .type t, true, h1, h2, true, rfl, ?_⟩
  refine ⟨_, rfl, d, rfl, xs, ?_, _, _, rfl, rfl, _, rfl, ?_⟩
  · rcases hs with rfl | rfl
    · exact .inl rfl
    · exact .inr rfl
  · by_cases h1 : lo ≤ (xs.length : Int)
    · rw [decide_eq_true h1] at q ⊢
      exact ⟨_, rfl, _, _, rfl, rfl, q⟩
    · rw [decide_eq_false h1] at q ⊢
      exact q
end
end K11
set_option Elab.async false
set_option linter.all false
set_option maxRecDepth 100000
set_option maxHeartbeats 4000000
namespace K11
open PySem PySem.Spec PyProof.Rows L2 Pd
section
variable {P : Program} {w : World} {K : PySem.W.Frag} {mg : Str → Option Value} {base : Heap}
def W_all_between : DC := fun ds M Q => ∃ d xs lo hi, ds = [d, .int lo, .int hi] ∧ isSeq d (dI xs) ∧ xs.length ≤ sizeLine ∧ Q (.bl (xs.all fun x => decide (lo ≤ x) && decide (x ≤ hi))) M
theorem ok_all_between (T : Tx P w K mg) : FnOk P w K mg base CX0 3 T.a_all_between T.f_all_between ["items", "low", "high"] (spD 3 W_all_between K) := by
  refine pd_fn T.F_all_between sc_all_between (fun cdv A outer s H E hr => ⟨_, (pdss_one (pds_ret (pd_callB (cr_all rfl) sc_all (by rfl) T.n_all (by decide +kernel) (pda_cons (pd_lc [("item", 3)] rfl sc_all_between.nd (pdi_seq (pd_name 0)) (blkOk_by (N := ["items", "low", "high", "item"]) (sc := defScope s_all_between) (by decide +kernel)) (fun _ _ _ _ _ => (pdg_name 3 sc_all_between.nd)) (fun _ _ _ _ _ => pdts_nil) (fun _ _ _ _ _ => (pd_call (ok_is_between T) (hr.mono (by decide)) (by rfl) T.g_is_between T.F_is_between.kp T.b_is_between (pda_cons (pd_name 3) (pda_cons (pd_name 1) (pda_cons (pd_name 2) pda_nil)))))) pda_nil)))), fun ds M Q hl h => ?_⟩)
  obtain ⟨d, xs, lo, hi, rfl, hs, hz, q⟩ := h
  refine ⟨d, rfl, dI xs, hs, lc_map (fun d => match d with | .int x => .bl (decide (lo ≤ x) && decide (x ≤ hi)) | d => d) _ _ (fun d hd R hR => ?_) (by simpa using hz) ?_⟩
  · obtain ⟨x, hx, rfl⟩ := List.mem_map.mp hd
    refine ⟨.int x, rfl, .int lo, rfl, .int hi, rfl, rfl, .int x, "int", lo, hi, rfl, rfl, fun i e => ?_, fun e => ?_⟩
    · cases e; exact hR
    · cases e
  · refine ⟨xs.map fun x => decide (lo ≤ x) && decide (x ≤ hi), ?_, ?_⟩
    · rw [List.nil_append, List.map_map, List.map_map]
      rfl
    · rw [List.all_map]
      exact q
def W_is_prime : DC := fun ds M Q => ∃ p, ds = [.int p] ∧ Q (.bl (gsz p).isSome) M
theorem ok_is_prime (T : Tx P w K mg) : FnOk P w K mg base CX0 2 T.a_is_prime T.f_is_prime ["value"] (spD 1 W_is_prime K) := by
  refine pd_fn T.F_is_prime sc_is_prime (fun cdv A outer s H E hr => ⟨_, (pdss_one (pds_ret (pd_and (pd_call (ok_is_integer T) (hr.mono (by decide)) (by rfl) T.g_is_integer T.F_is_integer.kp T.b_is_integer (pda_cons (pd_name 0) pda_nil)) (pd_one (pd_cmp (op_in_id T.d_GS) sr_inD (pd_name 0) (pd_glob (v := .ref T.a_GS) (d := .ob T.a_GS) (by rfl) T.g_GS rfl (fun _ _ => .ob _)) (by rfl)))))), fun ds M Q hl h => ?_⟩)
  obtain ⟨p, rfl, q⟩ := h
  exact ⟨.int p, rfl, rfl, .int p, "int", rfl, rfl, true, rfl, .int p, rfl, p, rfl, rfl, q⟩
def W_is_size : DC := fun ds M Q => ∃ p g n, ds = [.int p, .int n] ∧ gsz p = some g ∧ Q (.bl (decide (1 ≤ n) && decide (n ≤ g))) M
theorem ok_is_size (T : Tx P w K mg) : FnOk P w K mg base CX0 3 T.a_is_size T.f_is_size ["prime", "value"] (spD 2 W_is_size K) := by
  refine pd_fn T.F_is_size sc_is_size (fun cdv A outer s H E hr => ⟨_, (pdss_one (pds_ret (pd_and (pd_call (ok_is_prime T) (hr.mono (by decide)) (by rfl) T.g_is_prime T.F_is_prime.kp T.b_is_prime (pda_cons (pd_name 0) pda_nil)) (pd_one (pd_call (ok_is_between T) (hr.mono (by decide)) (by rfl) T.g_is_between T.F_is_between.kp T.b_is_between (pda_cons (pd_name 1) (pda_cons pd_int (pda_cons (pd_ix (ix_id T.d_GS) sr_ixD (pd_glob (v := .ref T.a_GS) (d := .ob T.a_GS) (by rfl) T.g_GS rfl (fun _ _ => .ob _)) (pd_name 0)) pda_nil)))))))), fun ds M Q hl h => ?_⟩)
  obtain ⟨p, g, n, rfl, hg, q⟩ := h
  refine ⟨.int p, rfl, rfl, p, rfl, true, by rw [hg]; rfl, .int n, rfl, .int p, rfl, p, g, rfl, rfl, hg, rfl, .int n, "int", 1, g, rfl, rfl, fun i e => ?_, fun e => ?_⟩
  · cases e; exact q
  · cases e
theorem small {p : Int} {fs : List Int} (h : SumOk p fs) : fs.length ≤ 6 := by
  obtain ⟨g, h1, h2, h3, _⟩ := h
  have := gsz_pos h1
  omega
theorem small' {p : Int} {fs : List Int} (h : SumOk p fs) : fs.length ≤ sizeLine := Nat.le_trans (small h) (by decide)
def W_is_data : DC := fun ds M Q => ∃ p n d xs, ds = [.int p, .int n, d] ∧ SumOk p xs ∧ isSeq d (dI xs) ∧ n = (xs.length : Int) ∧ Q (.bl true) M
theorem ok_is_data (T : Tx P w K mg) : FnOk P w K mg base CX0 4 T.a_is_data T.f_is_data ["prime", "size", "value"] (spD 3 W_is_data K) := by
  refine pd_fn T.F_is_data sc_is_data (fun cdv A outer s H E hr => ⟨_, (pdss_one (pds_ret (pd_and (pd_call (ok_is_size T) (hr.mono (by decide)) (by rfl) T.g_is_size T.F_is_size.kp T.b_is_size (pda_cons (pd_name 0) (pda_cons (pd_name 1) pda_nil))) (pd_and (pd_call (ok_has_items T) (hr.mono (by decide)) (by rfl) T.g_has_items T.F_has_items.kp T.b_has_items (pda_cons (pd_name 2) (pda_cons (pd_name 1) (pda_cons (pd_name 1) pda_nil)))) (pd_one (pd_call (ok_all_between T) (hr.mono (by decide)) (by rfl) T.g_all_between T.F_all_between.kp T.b_all_between (pda_cons (pd_name 2) (pda_cons pd_int (pda_cons (pd_op op_sub sr_I0i (pd_name 0) pd_int) pda_nil))))))))), fun ds M Q hl h => ?_⟩)
  obtain ⟨p, n, d, xs, rfl, hx, hs, rfl, q⟩ := h
  obtain ⟨g, h1, h2, h3, h4⟩ := id hx
  refine ⟨.int p, rfl, .int _, rfl, rfl, p, g, _, rfl, h1, true, by rw [decide_eq_true h2, decide_eq_true h3]; rfl, ?_⟩
  refine ⟨d, rfl, .int _, rfl, .int _, rfl, rfl, d, _, _, _, rfl, hs, true, by rw [List.length_map, decide_eq_true (Int.le_refl _)]; rfl, ?_⟩
  refine ⟨d, rfl, .int p, rfl, p, 1, rfl, rfl, rfl, d, xs, 0, p - 1, rfl, hs, small' hx, ?_⟩
  rw [h4.all]
  exact q
def W_expect : DC := fun ds M Q => ∃ p g n, ds = [.int p, .int n] ∧ gsz p = some g ∧ 1 ≤ n ∧ n ≤ g ∧ Q .non M
theorem ok_expect_prime_and_size (T : Tx P w K mg) : FnOk P w K mg base CX0 4 T.a_expect_prime_and_size T.f_expect_prime_and_size ["prime", "size"] (spD 2 W_expect K) := by
  refine pd_fn T.F_expect_prime_and_size sc_expect_prime_and_size (fun cdv A outer s H E hr => ⟨_, (pdss_cons (pds_if (pdt_not (pdt_val (pd_call (ok_is_prime T) (hr.mono (by decide)) (by rfl) T.g_is_prime T.F_is_prime.kp T.b_is_prime (pda_cons (pd_name 0) pda_nil)))) (pdss_one pds_never) pdss_nil)
      (pdss_one (pds_if (pdt_not (pdt_val (pd_call (ok_is_size T) (hr.mono (by decide)) (by rfl) T.g_is_size T.F_is_size.kp T.b_is_size (pda_cons (pd_name 0) (pda_cons (pd_name 1) pda_nil))))) (pdss_one pds_never) pdss_nil))), fun ds M Q hl h => ?_⟩)
  obtain ⟨p, g, n, rfl, hg, h1, h2, q⟩ := h
  refine ⟨.int p, rfl, rfl, p, rfl, true, by rw [hg]; rfl, ?_⟩
  refine ⟨.int p, rfl, .int n, rfl, rfl, p, g, n, rfl, hg, true, by rw [decide_eq_true h1, decide_eq_true h2]; rfl, ?_⟩
  exact q
theorem dty_sum (T : Tx P w K mg) (p : Int) (f : D) : DTy K (dSum T.a_Sum p f) (.ref T.a_Sum) := .ins T.c_Sum
def W_prime (C : Addr) : DC := fun ds M Q => ∃ p f, ds = [dSum C p f] ∧ Q (.int p) M
theorem ok_Sum_prime (T : Tx P w K mg) : FnOk P w K mg base CX0 1 T.a_Sum_prime T.f_Sum_prime ["self"] (spD 1 (W_prime T.a_Sum) K) := by
  refine pd_fn T.F_Sum_prime sc_Sum_prime (fun cdv A outer s H E hr => ⟨_, (pdss_one (pds_ret (pd_fldK (K := K) rfl (pd_name 0)))), fun ds M Q hl h => ?_⟩)
  obtain ⟨p, fs, rfl, q⟩ := h
  exact ⟨_, rfl, _, _, _, rfl, T.c_Sum.cl, T.na_prime, rfl, q⟩
def W_factors (C : Addr) : DC := fun ds M Q => ∃ p f, ds = [dSum C p f] ∧ Q f M
theorem ok_Sum_factors (T : Tx P w K mg) : FnOk P w K mg base CX0 1 T.a_Sum_factors T.f_Sum_factors ["self"] (spD 1 (W_factors T.a_Sum) K) := by
  refine pd_fn T.F_Sum_factors sc_Sum_factors (fun cdv A outer s H E hr => ⟨_, (pdss_one (pds_ret (pd_fldK (K := K) rfl (pd_name 0)))), fun ds M Q hl h => ?_⟩)
  obtain ⟨p, fs, rfl, q⟩ := h
  exact ⟨_, rfl, _, _, _, rfl, T.c_Sum.cl, T.na_factors, rfl, q⟩
def W_size (C : Addr) : DC := fun ds M Q => ∃ p f fs, ds = [dSum C p f] ∧ Fs f fs ∧ Q (.int fs.length) M
theorem ok_Sum_size (T : Tx P w K mg) : FnOk P w K mg base CX0 1 T.a_Sum_size T.f_Sum_size ["self"] (spD 1 (W_size T.a_Sum) K) := by
  refine pd_fn T.F_Sum_size sc_Sum_size (fun cdv A outer s H E hr => ⟨_, (pdss_one (pds_ret (pd_callB call_len_seq sc_len (by rfl) T.n_len (by decide +kernel) (pda_cons (pd_fg (pd_fldK (K := K) rfl (pd_name 0))) pda_nil)))), fun ds M Q hl h => ?_⟩)
  obtain ⟨p, f, fs, rfl, hf, q⟩ := h
  refine ⟨_, rfl, _, _, _, rfl, T.c_Sum.cl, T.na_factors, rfl, dI fs, .inr (by rw [show fgD f = _ from hf]), ?_⟩
  rw [List.length_map]
  exact q
def W_is_sum (K : PySem.W.Frag) (C : Addr) : DC := fun ds M Q => ∃ (p n : Int) (d : D), ds = [.int p, .int n, d] ∧ ((∃ p' f fs, d = dSum C p' f ∧ Fs f fs ∧ Q (.bl (decide (p' = p) && decide ((fs.length : Int) = n))) M) ∨ ∃ t, DTy K d t ∧ PySem.W.kitOne K t (.ref C) = some false ∧ Q (.bl false) M)
theorem ok_is_sum (T : Tx P w K mg) : FnOk P w K mg base CX0 3 T.a_is_sum T.f_is_sum ["prime", "size", "value"] (spD 3 (W_is_sum K T.a_Sum) K) := by
  refine pd_fn T.F_is_sum sc_is_sum (fun cdv A outer s H E hr => ⟨_, (pdss_one (pds_ret (pd_and (pd_callB call_isi sc_isi (by rfl) T.n_isinstance (by decide +kernel) (pda_cons (pd_name 2) (pda_cons (pd_glob (v := .ref T.a_Sum) (d := .ob T.a_Sum) (by rfl) T.g_Sum rfl (fun _ _ => .ob _)) pda_nil))) (pd_and (pd_cmp (op_eqD hr.units) sr_eq (pd_prop (pd_name 2) T.c_Sum.cl T.pp_Sum_prime (ok_Sum_prime T) (hr.mono (by decide)) T.b_Sum_prime) (pd_name 0) (nomark _)) (pd_one (pd_cmp (op_eqD hr.units) sr_eq (pd_prop (pd_name 2) T.c_Sum.cl T.pp_Sum_size (ok_Sum_size T) (hr.mono (by decide)) T.b_Sum_size) (pd_name 1) (nomark _))))))), fun ds M Q hl h => ?_⟩)
  obtain ⟨p, n, d, rfl, ⟨p', f, fs, rfl, hf, q⟩ | ⟨t, ht, hk, q⟩⟩ := h
  · refine ⟨_, rfl, _, _, _, _, _, true, rfl, dty_sum T p' f, .ob T.a_Sum, T.kt_Sum, true, rfl, ?_⟩
    refine ⟨_, rfl, _, rfl, _, _, rfl, .int p, rfl, rfl, rfl, decide (p' = p), by rw [eqD_int], ?_⟩
    by_cases e : p' = p
    · rw [decide_eq_true e] at q ⊢
      refine ⟨_, rfl, _, rfl, _, _, fs, rfl, hf, .int _, rfl, rfl, rfl, ?_⟩
      rw [eqD_int]
      exact q
    · rw [decide_eq_false e] at q ⊢
      exact q
  · refine ⟨d, rfl, _, _, _, _, _, false, rfl, ht, .ob T.a_Sum, hk, false, rfl, q⟩
def W_init (C : Addr) : DC := fun ds M Q => ∃ j p d fs, ds = [.mu j, .int p, d] ∧ M[j]? = some (.ins C []) ∧ SumOk p fs ∧
  ((d = .lst (dI fs) ∧ Q .non (M.set j (.ins C [("_prime", .int p), ("_factors", .tfz fs)]))) ∨ (d = .tup (dI fs) ∧ Q .non (M.set j (.ins C [("_prime", .int p), ("_factors", .tup (dI fs))]))) ∨ (d = .tfz fs ∧ Q .non (M.set j (.ins C [("_prime", .int p), ("_factors", .tfz fs)]))))
theorem ok_Sum_init (T : Tx P w K mg) : FnOk P w K mg base CX0 4 T.a_Sum_init T.f_Sum_init ["self", "prime", "factors"] (spD 3 (W_init T.a_Sum) K) := by
  refine pd_fn T.F_Sum_init sc_Sum_init (fun cdv A outer s H E hr => ⟨_, (pdss_cons (pds_if (pdt_not (pdt_val (pd_call (ok_is_prime T) (hr.mono (by decide)) (by rfl) T.g_is_prime T.F_is_prime.kp T.b_is_prime (pda_cons (pd_name 1) pda_nil)))) (pdss_one pds_never) pdss_nil)
      (pdss_cons (pds_if (pdt_w (pdw_or (pdt_not (pdt_val (pd_call (ok_has_items T) (hr.mono (by decide)) (by rfl) T.g_has_items T.F_has_items.kp T.b_has_items (pda_cons (pd_fg (pd_name 2)) (pda_cons pd_int (pda_cons (pd_ix (ix_id T.d_GS) sr_ixD (pd_glob (v := .ref T.a_GS) (d := .ob T.a_GS) (by rfl) T.g_GS rfl (fun _ _ => .ob _)) (pd_name 1)) pda_nil)))))) (pdw_or1 (pdt_not (pdt_val (pd_call (ok_all_between T) (hr.mono (by decide)) (by rfl) T.g_all_between T.F_all_between.kp T.b_all_between (pda_cons (pd_fg (pd_name 2)) (pda_cons pd_int (pda_cons (pd_op op_sub sr_I0i (pd_name 1) pd_int) pda_nil))))))))) (pdss_one pds_never) pdss_nil)
      (pdss_cons (pds_fldM (pd_name 1) (pd_name 0))
      (pdss_one (pds_fldM (pd_callTy call_mkT sc_mkT (by rfl) T.n_tuple (by decide +kernel) (pda_cons (pd_name 2) pda_nil)) (pd_name 0)))))), fun ds M Q hl h => ?_⟩)
  obtain ⟨j, p, d, fs, rfl, hm, hx, q⟩ := h
  obtain ⟨g, h1, h2, h3, h4⟩ := id hx
  have hj : j < M.length := (List.getElem?_eq_some_iff.mp hm).1
  have hs : isSeq (fgD d) (dI fs) := by
    rcases q with ⟨rfl, _⟩ | ⟨rfl, _⟩ | ⟨rfl, _⟩
    · exact .inl rfl
    · exact .inr rfl
    · exact .inr rfl
  refine ⟨.int p, rfl, rfl, p, rfl, true, by rw [h1]; rfl, ?_⟩
  refine ⟨d, rfl, .int p, rfl, p, g, rfl, rfl, h1, rfl, fgD d, _, _, _, rfl, hs, true, by rw [List.length_map, decide_eq_true h2, decide_eq_true h3]; rfl, ?_⟩
  refine ⟨d, rfl, .int p, rfl, p, 1, rfl, rfl, rfl, fgD d, fs, 0, p - 1, rfl, hs, small' hx, true, by rw [h4.all], ?_⟩
  refine ⟨.int p, rfl, .mu j, rfl, j, T.a_Sum, [], rfl, hm, T.c_Sum.cl, T.na_prime, by decide, ?_⟩
  refine ⟨d, rfl, d, fs, rfl, ?_⟩
  have g1 : (M.set j (.ins T.a_Sum [("_prime", .int p)]))[j]? = some (.ins T.a_Sum [("_prime", .int p)]) := by rw [List.getElem?_set_self hj]
  rcases q with ⟨rfl, q⟩ | ⟨rfl, q⟩ | ⟨rfl, q⟩
  · refine .inl ⟨rfl, .mu j, rfl, j, T.a_Sum, [("_prime", .int p)], rfl, g1, T.c_Sum.cl, T.na_factors, (by show 1 < 1000; decide), ?_⟩
    show Q .non _
    rw [List.set_set]; exact q
  · refine .inr (.inl ⟨rfl, .mu j, rfl, j, T.a_Sum, [("_prime", .int p)], rfl, g1, T.c_Sum.cl, T.na_factors, (by show 1 < 1000; decide), ?_⟩)
    show Q .non _
    rw [List.set_set]; exact q
  · refine .inr (.inr ⟨rfl, .mu j, rfl, j, T.a_Sum, [("_prime", .int p)], rfl, g1, T.c_Sum.cl, T.na_factors, (by show 1 < 1000; decide), ?_⟩)
    show Q .non _
    rw [List.set_set]; exact q
theorem make_sum {C : Addr} {p : Int} {fs : List Int} {d f : D} {M : Ms} {P : D → Ms → Prop} (hok : SumOk p fs) (hd : (d = .lst (dI fs) ∧ f = .tfz fs) ∨ (d = .tup (dI fs) ∧ f = .tup (dI fs)) ∨ (d = .tfz fs ∧ f = .tfz fs)) (hM : okM M) (q : P (dSum C p f) M) :
    ([.int p, d] : List D).length + 1 = 3 ∧ W_init C (.mu M.length :: [.int p, d]) (M ++ [.ins C []]) fun d M2 => ∃ M3 fs, d = .non ∧ M2 = M3 ++ [.ins C fs] ∧ M3.length = M.length ∧ apartF M.length fs = true ∧ apartM M.length M3 = true ∧ P (.ins C fs) M3 := by
  have hap : apartF M.length [("_prime", .int p), ("_factors", f)] = true := by
    show (true && (apart M.length f && true)) = true
    have : apart M.length f = true := by
      rcases hd with ⟨_, rfl⟩ | ⟨_, rfl⟩ | ⟨_, rfl⟩
      · rfl
      · exact apartA_ints _ _
      · rfl
    rw [this]; rfl
  refine ⟨rfl, _, p, d, fs, rfl, get_last _ _, hok, ?_⟩
  rcases hd with ⟨h1, rfl⟩ | ⟨h1, rfl⟩ | ⟨h1, rfl⟩
  · exact .inl ⟨h1, M, _, rfl, set_last _ _ _, rfl, hap, hM, q⟩
  · exact .inr (.inl ⟨h1, M, _, rfl, set_last _ _ _, rfl, hap, hM, q⟩)
  · exact .inr (.inr ⟨h1, M, _, rfl, set_last _ _ _, rfl, hap, hM, q⟩)
end
end K11
set_option Elab.async false
set_option linter.all false
set_option maxRecDepth 100000
set_option maxHeartbeats 4000000
namespace K11
open PySem PySem.Spec PyProof.Rows L2 Pd
def vsum (fs xs : List Int) : Int := (List.zipWith (fun a b => a * b) fs xs).sum
theorem pairs_mem : ∀ (fs xs : List Int) (d : D), d ∈ pairs (dI fs) (dI xs) → ∃ a b, a ∈ fs ∧ b ∈ xs ∧ d = .tup [.int a, .int b]
  | a :: fs, b :: xs, d, h => by
    rcases List.mem_cons.mp h with rfl | h
    · exact ⟨a, b, List.mem_cons_self, List.mem_cons_self, rfl⟩
    · obtain ⟨a', b', h1, h2, h3⟩ := pairs_mem fs xs d h
      exact ⟨a', b', List.mem_cons_of_mem _ h1, List.mem_cons_of_mem _ h2, h3⟩
  | [], xs, d, h => by cases xs <;> cases h
  | _ :: _, [], d, h => by cases h
def on2 (f : Int → Int → Int) : D → D := fun d => match d with | .tup [.int a, .int b] => .int (f a b) | d => d
theorem pairs_map (f : Int → Int → Int) : ∀ fs xs : List Int, (pairs (dI fs) (dI xs)).map (on2 f) = dI (List.zipWith f fs xs)
  | a :: fs, b :: xs => by
    show D.int (f a b) :: (pairs (dI fs) (dI xs)).map (on2 f) = _
    rw [pairs_map f fs xs]
    rfl
  | [], [] => rfl
  | [], _ :: _ => rfl
  | _ :: _, [] => rfl
theorem pairs_size (fs xs : List Int) : (pairs (dI fs) (dI xs)).length ≤ fs.length := by
  rw [Pd.pairs_len, List.length_map]
  exact Nat.min_le_left _ _
theorem SumOk.pos {p : Int} {fs : List Int} (h : SumOk p fs) : 0 < p ∧ p ≤ 7 := by
  obtain ⟨g, h1, _⟩ := h
  have := gsz_pos h1
  omega
theorem SumOk.mem {p : Int} {fs : List Int} (h : SumOk p fs) {a : Int} (ha : a ∈ fs) : 0 ≤ a ∧ a < 7 := by
  have h1 := h.pos
  obtain ⟨g, _, _, _, h4⟩ := h
  have := h4 a ha
  omega
section
variable {P : Program} {w : World} {K : PySem.W.Frag} {mg : Str → Option Value} {base : Heap}
def W_call (C : Addr) : DC := fun ds M Q => ∃ p f fs d xs, ds = [dSum C p f, d] ∧ Fs f fs ∧ SumOk p fs ∧ SumOk p xs ∧ isSeq d (dI xs) ∧ xs.length = fs.length ∧ Q (.int (vsum fs xs % p)) M
theorem ok_Sum_call (T : Tx P w K mg) : FnOk P w K mg base CX0 5 T.a_Sum_call T.f_Sum_call ["self", "data"] (spD 2 (W_call T.a_Sum) K) := by
  refine pd_fn T.F_Sum_call sc_Sum_call (fun cdv A outer s H E hr => ⟨_, (pdss_cons (pds_if (pdt_not (pdt_val (pd_call (ok_is_data T) (hr.mono (by decide)) (by rfl) T.g_is_data T.F_is_data.kp T.b_is_data (pda_cons (pd_fldK (K := K) rfl (pd_name 0)) (pda_cons (pd_callB call_len_seq sc_len (by rfl) T.n_len (by decide +kernel) (pda_cons (pd_fg (pd_fldK (K := K) rfl (pd_name 0))) pda_nil)) (pda_cons (pd_name 1) pda_nil)))))) (pdss_one pds_never) pdss_nil)
      (pdss_one (pds_ret (pd_op op_mod sr_I (pd_callB (cr_sum rfl) sc_sum (by rfl) T.n_sum (by decide +kernel) (pda_cons (pd_lc [("factor", 2), ("value", 3)] rfl sc_Sum_call.nd (pdi_zip (by rfl) T.n_zip (pda_cons (pd_fg (pd_fldK (K := K) rfl (pd_name 0))) (pda_cons (pd_name 1) pda_nil))) (blkOk_by (N := ["self", "data", "factor", "value"]) (sc := defScope s_Sum_call) (by decide +kernel)) (fun _ _ _ _ _ => (pdg_tup (n := 2) rfl (pdgs_cons (pdg_name 2 sc_Sum_call.nd) (pdgs_cons (pdg_name 3 sc_Sum_call.nd) pdgs_nil)))) (fun _ _ _ _ _ => pdts_nil) (fun _ _ _ _ _ => (pd_op op_mul sr_I (pd_name 2) (pd_name 3)))) pda_nil)) (pd_fldK (K := K) rfl (pd_name 0)))))), fun ds M Q hl h => ?_⟩)
  obtain ⟨p, f, fs, d, xs, rfl, hf, h1, h2, hs, hl', q⟩ := h
  have hf' : fgD f = .tup (dI fs) := hf
  refine ⟨_, rfl, _, _, _, rfl, T.c_Sum.cl, T.na_prime, rfl, _, rfl, _, _, _, rfl, T.c_Sum.cl, T.na_factors, rfl, dI fs, .inr (by rw [hf']), d, rfl, rfl, p, _, d, xs, rfl, h2, hs, by rw [List.length_map, hl'], true, rfl, ?_⟩
  refine ⟨_, rfl, _, _, _, rfl, T.c_Sum.cl, T.na_factors, rfl, d, rfl, fgD f, d, dI fs, dI xs, rfl, .inr hf', hs, ?_⟩
  refine lc_map (on2 fun a b => a * b) _ _ (fun e he R hR => ?_) (Nat.le_trans (by simpa using pairs_size fs xs) (small' h1)) ?_
  · obtain ⟨a, b, ha, hb, rfl⟩ := pairs_mem _ _ _ he
    have := h1.mem ha
    exact ⟨_, rfl, rfl, _, _, rfl, _, _, rfl, rfl, .int a, rfl, .int b, rfl, a, b, rfl, rfl, .inl ⟨by omega, by omega⟩, hR⟩
  · rw [List.nil_append, pairs_map]
    exact ⟨_, rfl, _, rfl, _, _, _, rfl, T.c_Sum.cl, T.na_prime, rfl, _, p, rfl, rfl, h1.pos.1, q⟩
end
end K11
set_option Elab.async false
set_option linter.all false
set_option maxRecDepth 100000
set_option maxHeartbeats 4000000
namespace K11
open PySem PySem.Spec PyProof.Rows L2 Pd Spc
theorem rmd_snoc (p : Int) (l : Rw) : ∀ (R : List Rw) (row : Rw), rmd p (R ++ [l]) row = mn p (rmd p R row) l (at_ (rmd p R row) (Spc.ld l))
  | [], row => rfl
  | r :: R, row => rmd_snoc p l R _
theorem mn_len {p : Int} {row other : Rw} {t : Int} (h : other.length = row.length) : (mn p row other t).length = row.length := by unfold mn; rw [List.length_zipWith, h, Nat.min_self]
theorem mn_in {p : Int} (hp : 0 < p) {row other : Rw} {t : Int} : In p (mn p row other t) := fun x hx => by
  unfold mn at hx
  rw [List.mem_iff_getElem] at hx
  obtain ⟨i, hi, rfl⟩ := hx
  rw [List.getElem_zipWith]
  exact ⟨Int.emod_nonneg _ (by omega), Int.emod_lt_of_pos _ (by omega)⟩
theorem rmd_len {p : Int} {n : Nat} : ∀ {R : List Rw} {row : Rw}, (∀ l ∈ R, l.length = n) → row.length = n → (rmd p R row).length = n
  | [], row, _, h => h
  | r :: R, row, h1, h => rmd_len (R := R) (row := mn p row r (at_ row (Spc.ld r))) (fun l hl => h1 l (List.mem_cons_of_mem _ hl)) (by rw [mn_len (by rw [h1 r List.mem_cons_self, h]), h])
theorem rmd_in {p : Int} (hp : 0 < p) : ∀ {R : List Rw} {row : Rw}, In p row → In p (rmd p R row)
  | [], row, h => h
  | r :: R, row, h => rmd_in hp (R := R) (row := mn p row r (at_ row (Spc.ld r))) (mn_in hp)
theorem at_get {row : Rw} {i : Nat} (h : i < row.length) : (dI row)[i]? = some (.int (at_ row i)) := by
  unfold at_
  rw [List.getElem?_map, List.getElem?_eq_getElem h, List.getD_eq_getElem?_getD, List.getElem?_eq_getElem h]; rfl
theorem psz {row other : List Int} (h : row.length ≤ 1000) : ([] : List D).length + (pairs (dI row) (dI other)).length ≤ sizeLine := by
  have h1 := pairs_size row other
  have hs : sizeLine = 16777216 := by decide
  rw [List.length_nil]; omega
/-- a row that leads -/
structure Lrow (n : Nat) (l : Rw) : Prop where
  len : l.length = n
  one : (1 : Int) ∈ l
  low : ∀ x ∈ l, 0 ≤ x ∧ x < 7
theorem Lrow.ix {n : Nat} {l : Rw} (h : Lrow n l) : Spc.ld l < n := by unfold Spc.ld; rw [← h.len]; exact List.idxOf_lt_length_iff.mpr h.one
section
variable {P : Program} {w : World} {K : PySem.W.Frag} {mg : Str → Option Value} {base : Heap}
def W_minus : DC := fun ds M Q => ∃ (p t : Int) (r o : D) (row other : List Int), ds = [.int p, r, o, .int t] ∧ fgD r = .tup (dI row) ∧ fgD o = .tup (dI other) ∧ 0 < p ∧ (∀ b ∈ other, 0 ≤ b ∧ b < 7) ∧ row.length ≤ 1000 ∧ Q (.tfz (mn p row other t)) M
theorem ok_minus (T : Tx P w K mg) : FnOk P w K mg base CX0 1 T.a_minus T.f_minus ["prime", "row", "other", "times"] (spD 4 W_minus K) := by
  refine pd_fn T.F_minus sc_minus (fun cdv A outer s H E hr => ⟨_, (pdss_one (pds_ret (pd_callTy call_mkT sc_mkT (by rfl) T.n_tuple (by decide +kernel) (pda_cons (pd_lc [("one", 4), ("two", 5)] rfl sc_minus.nd (pdi_zip (by rfl) T.n_zip (pda_cons (pd_fg (pd_name 1)) (pda_cons (pd_fg (pd_name 2)) pda_nil))) (blkOk_by (N := ["prime", "row", "other", "times", "one", "two"]) (sc := defScope s_minus) (by decide +kernel)) (fun _ _ _ _ _ => (pdg_tup (n := 2) rfl (pdgs_cons (pdg_name 4 sc_minus.nd) (pdgs_cons (pdg_name 5 sc_minus.nd) pdgs_nil)))) (fun _ _ _ _ _ => pdts_nil) (fun _ _ _ _ _ => (pd_op op_mod sr_I (pd_op op_sub sr_I0i (pd_name 4) (pd_op op_mul sr_I (pd_name 3) (pd_name 5))) (pd_name 0)))) pda_nil)))), fun ds M Q hl h => ?_⟩)
  obtain ⟨p, t, r, o, row, other, rfl, h1, h2, hp, hb, hz, q⟩ := h
  refine ⟨r, rfl, o, rfl, fgD r, fgD o, dI row, dI other, rfl, .inr h1, .inr h2, ?_⟩
  refine lc_map (on2 fun a b => (a - t * b) % p) _ _ (fun e he R hR => ?_) (psz hz) ?_
  · obtain ⟨a, b, ha, hb', rfl⟩ := pairs_mem _ _ _ he
    have := hb b hb'
    exact ⟨_, rfl, rfl, _, _, rfl, _, _, rfl, rfl, .int a, rfl, .int t, rfl, .int b, rfl, t, b, rfl, rfl, .inr ⟨by omega, by omega⟩, a, _, rfl, rfl, .int p, rfl, _, p, rfl, rfl, hp, hR⟩
  · rw [List.nil_append, pairs_map]
    exact ⟨_, _, rfl, .inl ⟨rfl, q⟩⟩
def W_remainder : DC := fun ds M Q => ∃ (p : Int) (r : D) (R : List Rw) (row : Rw) (n : Nat), ds = [.int p, .lst (R.map D.tfz), r] ∧ fgD r = .tup (dI row) ∧ 0 < p ∧ row.length = n ∧ n ≤ 1000 ∧ (∀ l ∈ R, Lrow n l) ∧ (∀ d, fgD d = .tup (dI (rmd p R row)) → (R ≠ [] → d = .tfz (rmd p R row)) → Q d M)
theorem ok_remainder (T : Tx P w K mg) : FnOk P w K mg base CX0 2 T.a_remainder T.f_remainder ["prime", "reduced", "row"] (spD 3 W_remainder K) := by
  refine pd_fn T.F_remainder sc_remainder (fun cdv A outer s H E hr => ⟨_, (pdss_cons (pds_for PassesOwn.never rfl (pdi_list (pd_name 1)) (pdg_name 3 sc_remainder.nd) (pdss_one (pds_set 2 sc_remainder.nd (pd_call (ok_minus T) (hr.mono (by decide)) (by rfl) T.g_minus T.F_minus.kp T.b_minus (pda_cons (pd_name 0) (pda_cons (pd_name 2) (pda_cons (pd_name 3) (pda_cons (pd_ix ix_tup sr_ixT (pd_fg (pd_name 2)) (pd_tidx hr.units (pd_name 3) pd_int)) pda_nil))))))))
      (pdss_one (pds_ret (pd_name 2)))), fun ds M Q hl h => ?_⟩)
  obtain ⟨p, r, R, row, n, rfl, h1, hp, hln, hz, hR, q⟩ := h
  refine ⟨_, rfl, _, rfl, for_ind (fun i ρ M' => M' = M ∧ ∃ d x, ρ = [some (.int p), some (.lst (R.map D.tfz)), some d, x] ∧ fgD d = .tup (dI (rmd p (R.take i) row)) ∧ (i ≠ 0 → d = .tfz (rmd p (R.take i) row))) _ ?_ ?_ ⟨rfl, r, none, rfl, h1, fun z => absurd rfl z⟩⟩
  · rintro i d ρ M' N hd ⟨rfl, e, x, rfl, he, _⟩ hN
    have hi : i < R.length := by have := (List.getElem?_eq_some_iff.mp hd).1; rwa [List.length_map] at this
    rw [List.getElem?_map, List.getElem?_eq_getElem hi] at hd
    cases hd
    have hm := hR R[i] (List.getElem_mem hi)
    have hlen : (rmd p (R.take i) row).length = n := rmd_len (fun l hl => (hR l (List.mem_of_mem_take hl)).len) hln
    have hx : (dI (rmd p (R.take i) row))[(((R[i] : List Int).idxOf 1 : Nat) : Int).toNat]? = some (.int (at_ (rmd p (R.take i) row) (Spc.ld R[i]))) := by
      rw [Int.toNat_natCast]; exact at_get (by rw [hlen]; exact hm.ix)
    refine ⟨.int p, rfl, e, rfl, .tfz R[i], rfl, e, rfl, .tfz R[i], rfl, R[i], rfl, 1, rfl, hm.one, ?_⟩
    rw [he]
    refine ⟨_, _, _, rfl, rfl, ⟨by omega, hx⟩, rfl, p, _, e, .tfz R[i], rmd p (R.take i) row, R[i], rfl, he, rfl, hp, hm.low, by rw [hlen]; exact hz, ?_⟩
    have hs : rmd p (R.take (i + 1)) row = mn p (rmd p (R.take i) row) R[i] (at_ (rmd p (R.take i) row) (Spc.ld R[i])) := by
      rw [List.take_succ_eq_append_getElem hi]; exact rmd_snoc p _ _ _
    refine hN _ _ ⟨rfl, _, _, rfl, ?_, fun _ => ?_⟩
    · rw [hs]; rfl
    · rw [hs]
  · rintro ρ M' ⟨rfl, e, x, rfl, he, h2⟩
    rw [List.length_map, List.take_length] at he h2
    exact ⟨e, rfl, q e he fun z => h2 fun y => z (List.length_eq_zero_iff.mp y)⟩
end
end K11
set_option Elab.async false
set_option linter.all false
set_option maxRecDepth 100000
set_option maxHeartbeats 4000000
namespace K11
open PySem PySem.Spec PyProof.Rows L2 Pd Spc
def on1 (f : Int → Int) : D → D := fun d => match d with | .int a => .int (f a) | d => d
theorem on1_map (f : Int → Int) : ∀ fs : List Int, (dI fs).map (on1 f) = dI (fs.map f) := fun fs => by
  show List.map _ (List.map _ _) = List.map _ (List.map _ _)
  rw [List.map_map, List.map_map]
  rfl
/-- what is known of the spaces of one form -/
structure Univ (p : Int) (n : Nat) (SP : List (List Rw)) : Prop where
  p2 : 2 ≤ p
  p7 : p ≤ 7
  n1 : 1 ≤ n
  n4 : n ≤ 4
  g : ∃ g, gsz p = some g ∧ (n : Int) ≤ g
  nil : [] ∈ SP
  lrow : ∀ R ∈ SP, ∀ l ∈ R, l.length = n ∧ (1 : Int) ∈ l ∧ In p l
  nodup : ∀ R ∈ SP, (R.map Spc.ld).Nodup
  len : ∀ R ∈ SP, R.length ≤ 4
  inv : ∀ f : Int, 0 < f → f < p → ∃ k ∈ rngL p, k * f % p = 1
  zs0 : zs p n [] = allD p n
  step : ∀ R ∈ SP, ∀ y ∈ allD p n, Spc.step p R y ∈ SP ∧ zs p n (Spc.step p R y) = ((zs p n R).filter fun d => dot y d p == 0) ∧ blind p n R y = ((zs p n R).find? fun d => dot y d p != 0) ∧ (!nz (rmd p R y)) = ((zs p n R).find? fun d => dot y d p != 0).isNone
theorem Univ.low {p : Int} {n : Nat} {SP : List (List Rw)} (U : Univ p n SP) {R : List Rw} (h : R ∈ SP) : ∀ l ∈ R, Lrow n l := fun l hl => by
  obtain ⟨h1, h2, h3⟩ := U.lrow R h l hl
  exact ⟨h1, h2, fun x hx => ⟨(h3 x hx).1, by have := (h3 x hx).2; have := U.p7; omega⟩⟩
theorem univ_of {p : Int} {n : Nat} {SP : List (List Rw)} (h2 : 2 ≤ p) (h7 : p ≤ 7) (n1 : 1 ≤ n) (n4 : n ≤ 4) (g : ∃ g, gsz p = some g ∧ (n : Int) ≤ g) (hs : shpB p n SP = true) (hg : (SP.all fun R => good p n SP R) = true) : Univ p n SP := by
  unfold shpB at hs
  simp only [Bool.and_eq_true] at hs
  obtain ⟨⟨⟨a1, a2⟩, a3⟩, a4⟩ := hs
  have sh := fun R hR => (List.all_eq_true.mp a3) R hR
  refine ⟨h2, h7, n1, n4, g, by simpa using a1, fun R hR l hl => ?_, fun R hR => ?_, fun R hR => ?_, fun f f0 fp => ?_, by simpa using a2, fun R hR y hy => ?_⟩
  · have := sh R hR
    simp only [Bool.and_eq_true] at this
    have h3 := (List.all_eq_true.mp this.2) l hl
    simp only [Bool.and_eq_true, decide_eq_true_eq] at h3
    refine ⟨h3.1.1, by simpa using h3.1.2, fun x hx => ?_⟩
    have := (List.all_eq_true.mp h3.2) x hx
    simpa using this
  · have := sh R hR
    simp only [Bool.and_eq_true, decide_eq_true_eq] at this
    exact this.1.2
  · have := sh R hR
    simp only [Bool.and_eq_true, decide_eq_true_eq] at this
    exact this.1.1
  · have hm : f ∈ rngL p := List.mem_map.mpr ⟨f.toNat, List.mem_range.mpr (by omega), by omega⟩
    have := (List.all_eq_true.mp a4) f hm
    simp only [Bool.or_eq_true, beq_iff_eq] at this
    rcases this with z | z
    · omega
    · obtain ⟨k, hk, e⟩ := List.any_eq_true.mp z
      exact ⟨k, hk, by simpa using e⟩
  · have := (List.all_eq_true.mp hg) R hR
    unfold good at this
    have := (List.all_eq_true.mp this) y hy
    simp only [Bool.and_eq_true, beq_iff_eq] at this
    obtain ⟨⟨⟨b1, b2⟩, b3⟩, b4⟩ := this
    exact ⟨by simpa using b1, b2, b3, b4⟩
theorem fm_ne : ∀ row : List Int, (dI row).filterMap (fun d => match d with | .int x => if x = 0 then none else some (.int x) | _ => none) = dI (row.filter fun n => n != 0)
  | [] => rfl
  | x :: row => by
    have ih := fm_ne row
    show List.filterMap _ (D.int x :: dI row) = _
    by_cases h : x = 0
    · rw [List.filterMap_cons_none (by simp [h]), ih, List.filter_cons_of_neg (by simp [h])]
    · rw [List.filterMap_cons_some (b := .int x) (by simp [h]), ih, List.filter_cons_of_pos (by simp [h])]
      rfl
theorem rng_eq (p : Int) : rng 0 p.toNat = dI (rngL p) := by
  unfold rng rngL
  show _ = List.map D.int (List.map _ _)
  rw [List.map_map]
  exact List.map_congr_left fun k _ => by simp
theorem rngL_mem {p k : Int} (h : k ∈ rngL p) : 0 ≤ k ∧ k < p := by
  obtain ⟨j, hj, rfl⟩ := List.mem_map.mp h
  have := List.mem_range.mp hj
  omega
theorem fm_inv (p f : Int) : ∀ ks : List Int, (dI ks).filterMap (fun d => match d with | .int k => if k * f % p = 1 then some (.int k) else none | _ => none) = dI (ks.filter fun k => k * f % p == 1)
  | [] => rfl
  | k :: ks => by
    have ih := fm_inv p f ks
    show List.filterMap _ (D.int k :: dI ks) = _
    by_cases h : k * f % p = 1
    · rw [List.filterMap_cons_some (b := .int k) (by simp [h]), ih, List.filter_cons_of_pos (by simp [h])]; rfl
    · rw [List.filterMap_cons_none (by simp [h]), ih, List.filter_cons_of_neg (by simp [h])]
theorem head_get {q : Int → Bool} {xs : List Int} (h : ∃ x ∈ xs, q x = true) : (dI (xs.filter q))[(0 : Int).toNat]? = some (.int ((xs.filter q).headD 0)) ∧ (xs.filter q).headD 0 ∈ xs ∧ q ((xs.filter q).headD 0) = true := by
  obtain ⟨x, hx, hq⟩ := h
  have hm : x ∈ xs.filter q := List.mem_filter.mpr ⟨hx, hq⟩
  cases e : xs.filter q with
  | nil => rw [e] at hm; cases hm
  | cons y ys =>
    have hy : y ∈ xs.filter q := by rw [e]; exact List.mem_cons_self
    have := List.mem_filter.mp hy
    exact ⟨rfl, this.1, this.2⟩
section
variable {P : Program} {w : World} {K : PySem.W.Frag} {mg : Str → Option Value} {base : Heap}
def W_led : DC := fun ds M Q => ∃ (p : Int) (r : D) (row : List Int), ds = [.int p, r] ∧ fgD r = .tup (dI row) ∧ 2 ≤ p ∧ p ≤ 7 ∧ In p row ∧ row.length ≤ 1000 ∧ nz row = true ∧ (∀ f : Int, 0 < f → f < p → ∃ k ∈ rngL p, k * f % p = 1) ∧ Q (.tfz (led p row)) M
theorem ok_led_by_one (T : Tx P w K mg) : FnOk P w K mg base CX0 1 T.a_led_by_one T.f_led_by_one ["prime", "row"] (spD 2 W_led K) := by
  refine pd_fn T.F_led_by_one sc_led_by_one (fun cdv A outer s H E hr => ⟨_, (pdss_cons (pds_set 2 sc_led_by_one.nd (pd_ix ix_list sr_ixL (pd_lc [("factor", 4)] rfl sc_led_by_one.nd (pdi_tup (pd_fg (pd_name 1))) (blkOk_by (N := ["prime", "row", "first", "times", "factor", "number"]) (sc := defScope s_led_by_one) (by decide +kernel)) (fun _ _ _ _ _ => (pdg_name 4 sc_led_by_one.nd)) (fun _ _ _ _ _ => pdts_one (pdt_cmp (op_neD hr.units) sr_ne (pd_name 4) pd_int (nomark _))) (fun _ _ _ _ _ => (pd_name 4))) pd_int))
      (pdss_cons (pds_set 3 sc_led_by_one.nd (pd_ix ix_list sr_ixL (pd_lc [("number", 5)] rfl sc_led_by_one.nd (pdi_range1 (by rfl) T.n_range (pda_cons (pd_name 0) pda_nil)) (blkOk_by (N := ["prime", "row", "first", "times", "factor", "number"]) (sc := defScope s_led_by_one) (by decide +kernel)) (fun _ _ _ _ _ => (pdg_name 5 sc_led_by_one.nd)) (fun _ _ _ _ _ => pdts_one (pdt_cmp (op_eqD hr.units) sr_eq (pd_op op_mod sr_I (pd_op op_mul sr_I (pd_name 5) (pd_name 2)) (pd_name 0)) pd_int (nomark _))) (fun _ _ _ _ _ => (pd_name 5))) pd_int))
      (pdss_one (pds_ret (pd_callTy call_mkT sc_mkT (by rfl) T.n_tuple (by decide +kernel) (pda_cons (pd_lc [("factor", 4)] rfl sc_led_by_one.nd (pdi_tup (pd_fg (pd_name 1))) (blkOk_by (N := ["prime", "row", "first", "times", "factor", "number"]) (sc := defScope s_led_by_one) (by decide +kernel)) (fun _ _ _ _ _ => (pdg_name 4 sc_led_by_one.nd)) (fun _ _ _ _ _ => pdts_nil) (fun _ _ _ _ _ => (pd_op op_mod sr_I (pd_op op_mul sr_I (pd_name 4) (pd_name 3)) (pd_name 0)))) pda_nil)))))), fun ds M Q hl h => ?_⟩)
  obtain ⟨p, r, row, rfl, h1, hp, hp7, hin, hz, hnz, hinv, q⟩ := h
  have hs : sizeLine = 16777216 := by decide
  have hz0 : ([] : List D).length + (dI row).length ≤ sizeLine := by rw [List.length_nil, List.length_map]; omega
  refine ⟨r, rfl, dI row, h1, ?_⟩
  refine lc_fmap (fun d => match d with | .int x => if x = 0 then none else some (.int x) | _ => none) _ _ (fun d hd R S hR hS => ?_) hz0 ?_
  · obtain ⟨x, hx, rfl⟩ := List.mem_map.mp hd
    refine ⟨.int x, rfl, rfl, rfl, !decide (x = 0), by rw [eqD_int], ?_⟩
    by_cases h : x = 0
    · simp only [h, decide_true, Bool.not_true, Bool.false_eq_true, if_false]
      exact hS (by simp [h])
    · simp only [h, decide_false, Bool.not_false, if_true]
      exact ⟨_, rfl, hR _ (by simp [h])⟩
  rw [List.nil_append, fm_ne]
  obtain ⟨e1, e2, e3⟩ := head_get (q := fun n => n != 0) (xs := row) (by obtain ⟨x, hx, h⟩ := List.any_eq_true.mp hnz; exact ⟨x, hx, h⟩)
  have hf := hin _ e2
  have hf0 : (row.filter fun n => n != 0).headD 0 ≠ 0 := by simpa using e3
  have ef : (row.filter fun n => n != 0).headD 0 = fst1 row := rfl
  rw [ef] at e1 e2 e3 hf hf0
  refine ⟨_, 0, _, rfl, rfl, ⟨by decide, e1⟩, ?_⟩
  refine ⟨.int p, rfl, p, rfl, by omega, by omega, ?_⟩
  rw [rng_eq]
  refine lc_fmap (fun d => match d with | .int k => if k * fst1 row % p = 1 then some (.int k) else none | _ => none) _ _ (fun d hd R S hR hS => ?_) (by rw [List.length_nil, List.length_map]; unfold rngL; rw [List.length_map, List.length_range]; omega) ?_
  · obtain ⟨k, hk, rfl⟩ := List.mem_map.mp hd
    have := rngL_mem hk
    refine ⟨.int k, rfl, .int (fst1 row), rfl, k, _, rfl, rfl, .inl ⟨by omega, by omega⟩, .int p, rfl, _, p, rfl, rfl, by omega, rfl, rfl, decide (k * fst1 row % p = 1), by rw [eqD_int], ?_⟩
    by_cases h : k * fst1 row % p = 1
    · simp only [h, decide_true, if_true]
      exact ⟨_, rfl, hR _ (by simp [h])⟩
    · simp only [h, decide_false, Bool.false_eq_true, if_false]
      exact hS (by simp [h])
  rw [List.nil_append, fm_inv]
  obtain ⟨k0, hk0, ek0⟩ := hinv (fst1 row) (by omega) (by omega)
  obtain ⟨u1, u2, u3⟩ := head_get (q := fun k => k * fst1 row % p == 1) (xs := rngL p) ⟨k0, hk0, by simpa using ek0⟩
  have ei : ((rngL p).filter fun k => k * fst1 row % p == 1).headD 0 = inv1 p (fst1 row) := rfl
  rw [ei] at u1 u2 u3
  have hk := rngL_mem u2
  refine ⟨_, 0, _, rfl, rfl, ⟨by decide, u1⟩, ?_⟩
  refine ⟨r, rfl, dI row, h1, ?_⟩
  refine lc_map (on1 fun a => a * inv1 p (fst1 row) % p) _ _ (fun e he R hR => ?_) hz0 ?_
  · obtain ⟨a, ha, rfl⟩ := List.mem_map.mp he
    have := hin a ha
    exact ⟨.int a, rfl, .int _, rfl, a, _, rfl, rfl, .inl ⟨by omega, by omega⟩, .int p, rfl, _, p, rfl, rfl, by omega, hR⟩
  · rw [List.nil_append, on1_map]
    exact ⟨_, _, rfl, .inl ⟨rfl, q⟩⟩
end
end K11
set_option Elab.async false
set_option linter.all false
set_option maxRecDepth 100000
set_option maxHeartbeats 4000000
namespace K11
open PySem PySem.Spec PyProof.Rows L2 Pd Spc
def tD (row : Rw) : D := .tup (dI row)
theorem red_snoc {p : Int} {rows : List Rw} {k : Nat} (h : k < rows.length) : red p (rows.take (k + 1)) = Spc.step p (red p (rows.take k)) rows[k] := by
  unfold red
  rw [List.take_succ_eq_append_getElem h, List.foldl_append]; rfl
theorem red_in {p : Int} {n : Nat} {SP : List (List Rw)} (U : Univ p n SP) : ∀ (rows : List Rw) (R : List Rw), R ∈ SP → (∀ y ∈ rows, y ∈ allD p n) → rows.foldl (Spc.step p) R ∈ SP
  | [], R, h, _ => h
  | y :: rows, R, h, hy => red_in U rows _ (U.step R h y (hy y List.mem_cons_self)).1 fun z hz => hy z (List.mem_cons_of_mem _ hz)
theorem fg_at {es : List D} {rows : List Rw} (h : es.map fgD = rows.map tD) {k : Nat} {d : D} (hd : es[k]? = some d) : ∃ hk : k < rows.length, fgD d = .tup (dI rows[k]) := by
  have h1 := congrArg (fun l => l[k]?) h
  simp only [List.getElem?_map, hd, Option.map_some] at h1
  have hk : k < rows.length := by
    have hl := congrArg List.length h
    rw [List.length_map, List.length_map] at hl
    have := (List.getElem?_eq_some_iff.mp hd).1
    omega
  rw [List.getElem?_eq_getElem hk] at h1
  exact ⟨hk, Option.some.inj h1⟩
theorem red_len {p : Int} : ∀ (rows R : List Rw), (rows.foldl (Spc.step p) R).length ≤ R.length + rows.length
  | [], R => Nat.le_refl _
  | y :: rows, R => by
    have h := red_len (p := p) rows (Spc.step p R y)
    have h2 : (Spc.step p R y).length ≤ R.length + 1 := by
      unfold Spc.step
      split
      · rw [(srtD_perm _).length_eq, List.length_cons, List.length_map]; exact Nat.le_refl _
      · exact Nat.le_succ _
    show (rows.foldl (Spc.step p) (Spc.step p R y)).length ≤ R.length + (rows.length + 1)
    omega
theorem red_rref {p : Int} {W : Nat} (hp : 2 ≤ p) (hI : Invs p) : ∀ (rows R : List Rw), Rref W p R → (∀ y ∈ rows, y.length = W ∧ InP p y) → Rref W p (rows.foldl (Spc.step p) R)
  | [], _, h, _ => h
  | y :: rows, R, h, hy => red_rref hp hI rows _ (rref_step hp hI h (hy y List.mem_cons_self).1 (hy y List.mem_cons_self).2) fun z hz => hy z (List.mem_cons_of_mem _ hz)
theorem rref_low {p : Int} {W : Nat} {R : List Rw} (hp7 : p ≤ 7) (h : Rref W p R) : ∀ l ∈ R, Lrow W l := fun l hl => by
  have k := h.led l hl
  refine ⟨k.len, ?_, fun x hx => ⟨(k.inp x hx).1, by have := (k.inp x hx).2; omega⟩⟩
  have hk : Spc.ld l < l.length := by rw [k.len]; exact k.lt
  have e : l[Spc.ld l] = 1 := by rw [← at_lt hk]; exact k.one
  rw [← e]; exact List.getElem_mem hk
theorem rref_nil (W : Nat) (p : Int) : Rref W p [] := ⟨(fun _ h => nomatch h), List.Pairwise.nil⟩
section
variable {P : Program} {w : World} {K : PySem.W.Frag} {mg : Str → Option Value} {base : Heap}
def W_red : DC := fun ds M Q => ∃ (p : Int) (W : Nat) (es : List D) (rows : List Rw), ds = [.int p, .lst es] ∧ 2 ≤ p ∧ p ≤ 7 ∧ Invs p ∧ W ≤ 1000 ∧ es.map fgD = rows.map tD ∧ rows.length ≤ 1000 ∧ (∀ y ∈ rows, y.length = W ∧ InP p y) ∧ Q (.lst ((red p rows).map D.tfz)) M
theorem red_of {p : Int} {n : Nat} {SP : List (List Rw)} {es : List D} {rows : List Rw} {M : Ms} {Q : D → Ms → Prop} (U : Univ p n SP) (hes : es.map fgD = rows.map tD) (hz : rows.length ≤ 1000) (hrows : ∀ y ∈ rows, y ∈ allD p n) (q : Q (.lst ((red p rows).map D.tfz)) M) :
    W_red [.int p, .lst es] M Q := ⟨p, n, es, rows, rfl, U.p2, U.p7, U.inv, by have := U.n4; omega, hes, hz, fun y hy => allD_mem (hrows y hy), q⟩
theorem ok_reduced_rows (T : Tx P w K mg) : FnOk P w K mg base CX0 3 T.a_reduced_rows T.f_reduced_rows ["prime", "rows"] (spD 2 W_red K) := by
  refine pd_fn T.F_reduced_rows sc_reduced_rows (fun cdv A outer s H E hr => ⟨_, (pdss_cons (pds_set 2 sc_reduced_rows.nd (pd_lst pda_nil))
      (pdss_cons (pds_for PassesOwn.never rfl (pdi_list (pd_name 1)) (pdg_name 3 sc_reduced_rows.nd) (pdss_cons (pds_set 4 sc_reduced_rows.nd (pd_call (ok_remainder T) (hr.mono (by decide)) (by rfl) T.g_remainder T.F_remainder.kp T.b_remainder (pda_cons (pd_name 0) (pda_cons (pd_name 2) (pda_cons (pd_name 3) pda_nil)))))
      (pdss_one (pds_if (pdt_val (pd_callB (cr_anyT rfl) sc_anyT (by rfl) T.n_any (by decide +kernel) (pda_cons (pd_fg (pd_name 4)) pda_nil))) (pdss_cons (pds_set 5 sc_reduced_rows.nd (pd_call (ok_led_by_one T) (hr.mono (by decide)) (by rfl) T.g_led_by_one T.F_led_by_one.kp T.b_led_by_one (pda_cons (pd_name 0) (pda_cons (pd_name 4) pda_nil))))
      (pdss_cons (pds_setLc 6 [("other", 7)] rfl sc_reduced_rows.nd rfl rfl (sw_true rfl rfl rfl (by decide +kernel)) (pdi_list (pd_name 2)) (blkOk_by (N := ["prime", "rows", "reduced", "row", "rest", "lead", "others", "other"]) (sc := defScope s_reduced_rows) (by decide +kernel)) (fun _ _ _ _ _ => (pdg_name 7 sc_reduced_rows.nd)) (fun _ _ _ _ _ => pdts_nil) (fun _ _ _ _ _ => (pd_call (ok_remainder T) (hr.mono (by decide)) (by rfl) T.g_remainder T.F_remainder.kp T.b_remainder (pda_cons (pd_name 0) (pda_cons (pd_lst (pda_cons (pd_name 5) pda_nil)) (pda_cons (pd_name 7) pda_nil))))))
      (pdss_one (pds_set 2 sc_reduced_rows.nd (pd_sortRev hr.units (by rfl) T.n_sorted (pd_lst (pda_cons (pd_name 5) (pda_star (pd_name 6) pda_nil))) (pdk_cons pd_bl pdk_nil)))))) pdss_nil))))
      (pdss_one (pds_ret (pd_name 2))))), fun ds M Q hl h => ?_⟩)
  obtain ⟨p, W, es, rows, rfl, hp, hp7, hI, hW, hes, hrl, hrows, q⟩ := h
  have hs : sizeLine = 16777216 := by decide
  have hlen : es.length = rows.length := by have := congrArg List.length hes; rwa [List.length_map, List.length_map] at this
  refine ⟨by decide, ?_⟩
  refine ⟨_, rfl, _, rfl, for_ind (fun k ρ M' => M' = M ∧ ∃ x3 x4 x5 x6 x7, ρ = [some (.int p), some (.lst es), some (.lst ((red p (rows.take k)).map D.tfz)), x3, x4, x5, x6, x7]) _ ?_ ?_ ⟨rfl, none, none, none, none, none, rfl⟩⟩
  · rintro k d ρ M' N hd ⟨rfl, x3, x4, x5, x6, x7, rfl⟩ hN
    obtain ⟨hk, hfd⟩ := fg_at hes hd
    have hRS : Rref W p (red p (rows.take k)) := red_rref hp hI _ _ (rref_nil W p) fun y hy => hrows y (List.mem_of_mem_take hy)
    have hRl : (red p (rows.take k)).length ≤ 1000 := by
      have := red_len (p := p) (rows.take k) []
      rw [List.length_take, List.length_nil] at this
      show ((rows.take k).foldl (Spc.step p) []).length ≤ 1000
      omega
    obtain ⟨hyl, hyi⟩ := hrows _ (List.getElem_mem hk)
    have hst := rref_step hp hI hRS hyl hyi
    rw [red_snoc hk] at hN
    generalize hR : red p (rows.take k) = R at hRS hRl hst hN ⊢
    generalize rows[k] = y at hfd hyl hyi hst hN
    have hlow := rref_low hp7 hRS
    have hrl2 : (rmd p R y).length = W := rmd_len (fun l hl => (hlow l hl).len) hyl
    refine ⟨.int p, rfl, _, rfl, d, rfl, rfl, p, d, R, y, W, rfl, hfd, by omega, hyl, hW, hlow, fun e he _ => ?_⟩
    refine ⟨e, rfl, rmd p R y, by rw [he], nz (rmd p R y), rfl, ?_⟩
    cases hnz : nz (rmd p R y) with
    | false =>
      have e1 : Spc.step p R y = R := by unfold Spc.step; rw [if_neg (by rw [hnz]; decide)]
      rw [e1] at hN
      exact hN _ _ ⟨rfl, _, _, _, _, _, rfl⟩
    | true =>
      have e1 : Spc.step p R y = srtD (led p (rmd p R y) :: R.map fun o => rmd p [led p (rmd p R y)] o) := by unfold Spc.step; rw [if_pos hnz]
      rw [e1] at hN hst
      have hl2 := rref_low hp7 hst
      have hll : Lrow W (led p (rmd p R y)) := hl2 _ ((srtD_perm _).mem_iff.mpr List.mem_cons_self)
      refine ⟨.int p, rfl, e, rfl, rfl, p, e, rmd p R y, rfl, he, hp, hp7, rmd_in (by omega) hyi, by omega, hnz, hI, ?_⟩
      generalize led p (rmd p R y) = l at hll hl2 hst hN ⊢
      refine ⟨_, rfl, _, rfl, lc_map (fun d => match d with | .tfz o => .tfz (rmd p [l] o) | d => d) _ _ (fun d3 hd3 R3 hR3 => ?_) (by rw [List.length_nil, List.length_map]; omega) ?_⟩
      · obtain ⟨o, ho, rfl⟩ := List.mem_map.mp hd3
        refine ⟨.int p, rfl, .tfz l, rfl, (by show 1 ≤ sizeLine; decide), .tfz o, rfl, rfl, p, .tfz o, [l], o, W, rfl, rfl, by omega, (hlow o ho).len, hW, fun l' hl' => by rw [List.mem_singleton.mp hl']; exact hll, fun d4 _ h4 => ?_⟩
        rw [h4 (by simp)]
        exact hR3
      · have e2 : (R.map D.tfz).map (fun d => match d with | .tfz o => .tfz (rmd p [l] o) | d => d) = (R.map fun o => rmd p [l] o).map D.tfz := by
          rw [List.map_map, List.map_map]; rfl
        rw [List.nil_append, e2]
        refine ⟨.tfz l, rfl, _, rfl, _, .inl rfl, ?_, l :: R.map (fun o => rmd p [l] o), ?_, fun r hr => ?_, rfl, ?_⟩
        · rw [List.append_nil, List.length_cons, List.length_map, List.length_map]; omega
        · rw [List.append_nil]; rfl
        · intro z
          have := (hl2 r ((srtD_perm _).mem_iff.mpr hr)).one
          rw [z] at this
          cases this
        · rw [sort_eq]
          exact hN _ _ ⟨rfl, _, _, _, _, _, rfl⟩
  · rintro ρ M' ⟨rfl, x3, x4, x5, x6, x7, rfl⟩
    rw [hlen, List.take_length]
    exact ⟨_, rfl, q⟩
end
end K11
set_option Elab.async false
set_option linter.all false
set_option maxRecDepth 100000
set_option maxHeartbeats 4000000
namespace K11
open PySem PySem.Spec PyProof.Rows L2 Pd Spc
theorem dc_map {g : DG} {tk tv : DE} {ρ : Rho} {P : D → Ms → Prop} {M : Ms} (fk : D → Key) (fv : D → D) : ∀ (ds : List D) (ks : List Key) (acc : List D), (∀ d ∈ ds, ∀ S : D → D → Ms → Prop, S (keyD (fk d)) (fv d) M → g d ρ fun ρ' => tk ρ' M fun kd M1 => tv ρ' M1 fun y M2 => S kd y M2) →
    (ks ++ ds.map fk).Nodup → acc.length + ds.length ≤ sizeLine → P (.dic (ks ++ ds.map fk) (acc ++ ds.map fv)) M → dcRun g tk tv ρ P ds ks acc M
  | [], ks, acc, _, _, _, p => by
    show P (.dic ks acc) M
    simpa using p
  | d :: r, ks, acc, h, hn, hz, p => by
    rw [List.length_cons] at hz
    refine h d List.mem_cons_self (fun kd y M2 => ∃ k, kd = keyD k ∧ k ∉ ks ∧ acc.length < sizeLine ∧ dcRun g tk tv ρ P r (ks ++ [k]) (acc ++ [y]) M2) ⟨fk d, rfl, fun z => ?_, by omega, dc_map fk fv r _ _ (fun d' h' => h d' (List.mem_cons_of_mem _ h')) ?_ (by rw [List.length_append, List.length_singleton]; omega) ?_⟩
    · rw [List.map_cons] at hn
      exact (List.nodup_append.mp hn).2.2 _ z _ List.mem_cons_self rfl
    · rw [List.append_assoc]; exact hn
    · rw [List.append_assoc, List.append_assoc]; exact p
theorem get_find {p : Int} {free i : Nat} : ∀ R : List Rw, (dicGet (R.map fun l => (Sum.inl ((Spc.ld l : Nat) : Int) : Key)) (R.map fun l => D.int (-(at_ l free) % p)) (.inl (i : Int))).getD (.int 0) = .int (forced R p free i)
  | [] => rfl
  | l :: R => by
    have ih := get_find (p := p) (free := free) (i := i) R
    unfold dicGet forced at ih ⊢
    rw [List.map_cons, List.map_cons, List.zip_cons_cons]
    by_cases e : Spc.ld l = i
    · rw [List.find?_cons_of_pos (by simp [e]), List.find?_cons_of_pos (by simp [e])]; rfl
    · have e' : ¬ ((Spc.ld l : Nat) : Int) = (i : Int) := fun z => e (by exact_mod_cast z)
      rw [List.find?_cons_of_neg (by simpa using e'), List.find?_cons_of_neg (by simpa using e)]; exact ih
theorem forced_in {p : Int} (hp : 0 < p) {R : List Rw} {free i : Nat} : 0 ≤ forced R p free i ∧ forced R p free i < p := by
  unfold forced
  split
  · exact ⟨Int.emod_nonneg _ (by omega), Int.emod_lt_of_pos _ hp⟩
  · exact ⟨Int.le_refl _, hp⟩
theorem zrow_in {p : Int} (hp : 2 ≤ p) (n : Nat) (R : List Rw) (free : Nat) : zrow p n R free ∈ allD p n := by
  refine mem_allD (by omega) (by unfold zrow; rw [List.length_map, List.length_range]) fun x hx => ?_
  unfold zrow at hx
  obtain ⟨i, _, rfl⟩ := List.mem_map.mp hx
  split
  · omega
  · exact forced_in (by omega)
section
variable {P : Program} {w : World} {K : PySem.W.Frag} {mg : Str → Option Value} {base : Heap}
def W_zrow : DC := fun ds M Q => ∃ (p : Int) (n free : Nat) (SP R : List (List Rw)) (R : List Rw), ds = [.int p, .int n, .lst (R.map D.tfz), .int free] ∧ Univ p n SP ∧ R ∈ SP ∧ free < n ∧ Q (.tfz (zrow p n R free)) M
theorem ok_zero_row (T : Tx P w K mg) : FnOk P w K mg base CX0 1 T.a_zero_row T.f_zero_row ["prime", "size", "reduced", "free"] (spD 4 W_zrow K) := by
  refine pd_fn T.F_zero_row sc_zero_row (fun cdv A outer s H E hr => ⟨_, (pdss_cons (pds_set 4 sc_zero_row.nd (pd_dc [("row", 5)] rfl sc_zero_row.nd (pdi_list (pd_name 2)) (blkOk_by (N := ["prime", "size", "reduced", "free", "forced", "row", "place"]) (sc := defScope s_zero_row) (by decide +kernel)) (fun _ _ _ _ _ => (pdg_name 5 sc_zero_row.nd)) (fun _ _ _ _ _ => (pd_tidx hr.units (pd_name 5) pd_int)) (fun _ _ _ _ _ => (pd_op op_mod sr_I (pd_un un_neg su_U (pd_ix ix_tup sr_ixT (pd_fg (pd_name 5)) (pd_name 3))) (pd_name 0)))))
      (pdss_one (pds_ret (pd_callTy call_mkT sc_mkT (by rfl) T.n_tuple (by decide +kernel) (pda_cons (pd_lc [("place", 6)] rfl sc_zero_row.nd (pdi_range1 (by rfl) T.n_range (pda_cons (pd_name 1) pda_nil)) (blkOk_by (N := ["prime", "size", "reduced", "free", "forced", "row", "place"]) (sc := defScope s_zero_row) (by decide +kernel)) (fun _ _ _ _ _ => (pdg_name 6 sc_zero_row.nd)) (fun _ _ _ _ _ => pdts_nil) (fun _ _ _ _ _ => (pd_ifExp (pdt_cmp (op_eqD hr.units) sr_eq (pd_name 6) (pd_name 3) (nomark _)) pd_int (pd_dget2 hr.units (pd_name 4) (pd_name 6) pd_int)))) pda_nil))))), fun ds M Q hl h => ?_⟩)
  obtain ⟨p, n, free, SP, _, R, rfl, U, hR, hf, q⟩ := h
  have hs : sizeLine = 16777216 := by decide
  have hp := U.p2
  have hn := U.n4
  have hlow := U.low hR
  refine ⟨_, rfl, _, rfl, dc_map (fun d => match d with | .tfz l => .inl ((Spc.ld l : Nat) : Int) | _ => .inl 0) (fun d => match d with | .tfz l => .int (-(at_ l free) % p) | d => d) _ _ _ (fun d hd S hS => ?_) ?_ (by rw [List.length_nil, List.length_map]; have := U.len R hR; omega) ?_⟩
  · obtain ⟨l, hl, rfl⟩ := List.mem_map.mp hd
    have hll := hlow l hl
    refine ⟨.tfz l, rfl, l, rfl, 1, rfl, hll.one, ?_⟩
    refine ⟨.tfz l, rfl, .int free, rfl, _, _, .int (at_ l free), rfl, rfl, ⟨by omega, by rw [Int.toNat_natCast]; exact at_get (by rw [hll.len]; exact hf)⟩, _, rfl, .int p, rfl, _, p, rfl, rfl, by omega, hS⟩
  · rw [List.nil_append, List.map_map]
    have := U.nodup R hR
    unfold List.Nodup at this ⊢
    rw [List.pairwise_map] at this ⊢
    refine this.imp fun h z => h ?_
    have z' := Sum.inl.inj z
    exact_mod_cast z'
  · rw [List.nil_append, List.nil_append, List.map_map, List.map_map]
    refine ⟨.int n, rfl, n, rfl, by omega, by omega, ?_⟩
    refine lc_map (fun d => match d with | .int i => .int (if i = (free : Int) then 1 else forced R p free i.toNat) | d => d) _ _ (fun d hd R3 hR3 => ?_) (by rw [rng_len, List.length_nil, Int.toNat_natCast]; omega) ?_
    · obtain ⟨i, hi, rfl⟩ := List.mem_map.mp hd
      have hR' : R3 (.int (if 0 + (i : Int) = (free : Int) then 1 else forced R p free (0 + (i : Int)).toNat)) M := hR3
      refine ⟨.int _, rfl, .int _, rfl, rfl, rfl, decide (0 + (i : Int) = free), by rw [eqD_int], ?_⟩
      by_cases e : 0 + (i : Int) = (free : Int)
      · rw [if_pos e] at hR'
        rw [decide_eq_true e]
        exact hR'
      · rw [if_neg e, show (0 + (i : Int)).toNat = i by omega] at hR'
        rw [decide_eq_false e]
        refine ⟨_, rfl, _, _, rfl, .int (0 + (i : Int)), rfl, .inl (0 + (i : Int)), rfl, ?_⟩
        rw [Int.zero_add]
        have := get_find (p := p) (free := free) (i := i) R
        exact at_val this hR'
    · rw [List.nil_append]
      refine ⟨_, zrow p n R free, rfl, .inl ⟨?_, q⟩⟩
      unfold rng zrow
      rw [List.map_map, Int.toNat_natCast]
      show D.lst _ = D.lst (List.map D.int (List.map _ _))
      rw [List.map_map]
      congr 1
      refine List.map_congr_left fun i _ => ?_
      show D.int _ = D.int _
      congr 1
      have e : (0 + (i : Int)).toNat = i := by omega
      rw [e]
      show _ = if i = free then 1 else forced R p free i
      by_cases h : i = free
      · rw [if_pos h, if_pos (by omega)]
      · rw [if_neg h, if_neg (by omega)]
end
end K11
set_option Elab.async false
set_option linter.all false
set_option maxRecDepth 100000
set_option maxHeartbeats 4000000
namespace K11
open PySem PySem.Spec PyProof.Rows L2 Pd Spc
theorem any_ld (i : Nat) : ∀ R : List Rw, ((R.map fun l => D.int ((Spc.ld l : Nat) : Int)).any fun z => eqD z (.int (0 + (i : Int)))) = (R.map Spc.ld).contains i
  | [] => rfl
  | l :: R => by
    have ih := any_ld i R
    rw [List.map_cons, List.map_cons, List.any_cons, ih, List.contains_cons, eqD_int]
    congr 1
    rw [Bool.eq_iff_iff]
    simp
    omega
theorem fm_free {p : Int} {n : Nat} {R : List Rw} : ∀ ks : List Nat, (ks.map fun (k : Nat) => D.int (0 + (k : Int))).filterMap (fun d => match d with | .int i => if (R.map Spc.ld).contains i.toNat then none else some (.tfz (zrow p n R i.toNat)) | _ => none) = ((ks.filter fun i => !((R.map Spc.ld).contains i)).map (zrow p n R)).map D.tfz
  | [] => rfl
  | k :: ks => by
    have ih := fm_free (p := p) (n := n) (R := R) ks
    have e : (0 + (k : Int)).toNat = k := by omega
    rw [List.map_cons]
    cases h : (R.map Spc.ld).contains k with
    | true => rw [List.filterMap_cons_none (by simp only [e, h, if_true]), ih, List.filter_cons_of_neg (by rw [h]; decide)]
    | false => rw [List.filterMap_cons_some (b := .tfz (zrow p n R k)) (by simp only [e, h]; rfl), ih, List.filter_cons_of_pos (by rw [h]; rfl)]; rfl
theorem tfz_fg (rows : List Rw) : (rows.map D.tfz).map fgD = rows.map tD := by rw [List.map_map]; rfl
theorem zrows_in {p : Int} {n : Nat} {SP : List (List Rw)} (U : Univ p n SP) (R : List Rw) : zrows p n R ∈ SP := by
  unfold zrows red
  refine red_in U _ _ U.nil fun y hy => ?_
  obtain ⟨i, _, rfl⟩ := List.mem_map.mp hy
  exact zrow_in U.p2 n R i
section
variable {P : Program} {w : World} {K : PySem.W.Frag} {mg : Str → Option Value} {base : Heap}
def W_zrows : DC := fun ds M Q => ∃ (p : Int) (n : Nat) (SP : List (List Rw)) (R : List Rw), ds = [.int p, .int n, .lst (R.map D.tfz)] ∧ Univ p n SP ∧ R ∈ SP ∧ Q (.lst ((zrows p n R).map D.tfz)) M
theorem ok_zero_rows (T : Tx P w K mg) : FnOk P w K mg base CX0 4 T.a_zero_rows T.f_zero_rows ["prime", "size", "reduced"] (spD 3 W_zrows K) := by
  refine pd_fn T.F_zero_rows sc_zero_rows (fun cdv A outer s H E hr => ⟨_, (pdss_cons (pds_set 3 sc_zero_rows.nd (pd_lc [("row", 5)] rfl sc_zero_rows.nd (pdi_list (pd_name 2)) (blkOk_by (N := ["prime", "size", "reduced", "leads", "rows", "row", "place"]) (sc := defScope s_zero_rows) (by decide +kernel)) (fun _ _ _ _ _ => (pdg_name 5 sc_zero_rows.nd)) (fun _ _ _ _ _ => pdts_nil) (fun _ _ _ _ _ => (pd_tidx hr.units (pd_name 5) pd_int))))
      (pdss_cons (pds_setLc 4 [("place", 6)] rfl sc_zero_rows.nd rfl rfl (sw_true rfl rfl rfl (by decide +kernel)) (pdi_range1 (by rfl) T.n_range (pda_cons (pd_name 1) pda_nil)) (blkOk_by (N := ["prime", "size", "reduced", "leads", "rows", "row", "place"]) (sc := defScope s_zero_rows) (by decide +kernel)) (fun _ _ _ _ _ => (pdg_name 6 sc_zero_rows.nd)) (fun _ _ _ _ _ => pdts_one (pdt_cmp (op_ninI hr.units) sr_ninI (pd_name 6) (pd_name 3) (by rfl))) (fun _ _ _ _ _ => (pd_call (ok_zero_row T) (hr.mono (by decide)) (by rfl) T.g_zero_row T.F_zero_row.kp T.b_zero_row (pda_cons (pd_name 0) (pda_cons (pd_name 1) (pda_cons (pd_name 2) (pda_cons (pd_name 6) pda_nil)))))))
      (pdss_one (pds_ret (pd_call (ok_reduced_rows T) (hr.mono (by decide)) (by rfl) T.g_reduced_rows T.F_reduced_rows.kp T.b_reduced_rows (pda_cons (pd_name 0) (pda_cons (pd_name 4) pda_nil))))))), fun ds M Q hl h => ?_⟩)
  obtain ⟨p, n, SP, R, rfl, U, hR, q⟩ := h
  have hs : sizeLine = 16777216 := by decide
  have hn := U.n4
  have hlow := U.low hR
  refine ⟨_, rfl, _, rfl, lc_map (fun d => match d with | .tfz l => .int ((Spc.ld l : Nat) : Int) | d => d) _ _ (fun d hd R3 hR3 => ?_) (by rw [List.length_nil, List.length_map]; have := U.len R hR; omega) ?_⟩
  · obtain ⟨l, hl, rfl⟩ := List.mem_map.mp hd
    exact ⟨.tfz l, rfl, l, rfl, 1, rfl, (hlow l hl).one, hR3⟩
  rw [List.nil_append, List.map_map]
  have e1 : R.map ((fun d => match d with | .tfz l => D.int ((Spc.ld l : Nat) : Int) | d => d) ∘ D.tfz) = R.map fun l => D.int ((Spc.ld l : Nat) : Int) := rfl
  rw [e1]
  have okl : okD (.lst (R.map fun l => D.int ((Spc.ld l : Nat) : Int))) = true := by
    have : (R.map fun l => D.int ((Spc.ld l : Nat) : Int)) = dI (R.map fun l => ((Spc.ld l : Nat) : Int)) := by
      show _ = List.map _ (List.map _ _)
      rw [List.map_map]; rfl
    rw [this]; exact okD_lst _
  refine ⟨.int n, rfl, n, rfl, by omega, by omega, ?_⟩
  refine lc_fmap (fun d => match d with | .int i => if (R.map Spc.ld).contains i.toNat then none else some (.tfz (zrow p n R i.toNat)) | _ => none) _ _ (fun d hd R3 S hR3 hS => ?_) (by rw [List.length_nil, rng_len, Int.toNat_natCast]; omega) ?_
  · obtain ⟨i, hi, rfl⟩ := List.mem_map.mp hd
    rw [Int.toNat_natCast, List.mem_range] at hi
    have e : (0 + (i : Int)).toNat = i := by omega
    refine ⟨.int _, rfl, _, rfl, _, rfl, rfl, okl, (by show 0 ≤ 60; decide), _, rfl, ?_⟩
    rw [any_ld]
    cases h : (R.map Spc.ld).contains i with
    | true => exact hS (by simp only [e, h, if_true])
    | false =>
      refine ⟨.int p, rfl, .int n, rfl, _, rfl, .int (0 + (i : Int)), rfl, rfl, p, n, i, SP, [], R, ?_, U, hR, hi, hR3 _ (by simp only [e, h]; rfl)⟩
      rw [Int.zero_add]
  rw [List.nil_append]
  refine ⟨.int p, rfl, _, rfl, rfl, red_of (rows := ((List.range n).filter fun i => !((R.map Spc.ld).contains i)).map (zrow p n R)) U ?_ ?_ (fun y hy => ?_) q⟩
  · rw [← tfz_fg]
    congr 1
    unfold rng
    rw [Int.toNat_natCast]
    exact fm_free _
  · rw [List.length_map]; have := List.length_filter_le (fun i => !((R.map Spc.ld).contains i)) (List.range n); rw [List.length_range] at this; omega
  · obtain ⟨i, _, rfl⟩ := List.mem_map.mp hy
    exact zrow_in U.p2 n R i
end
end K11
set_option Elab.async false
set_option linter.all false
set_option maxRecDepth 100000
set_option maxHeartbeats 4000000
namespace K11
open PySem PySem.Spec PyProof.Rows L2 Pd Spc
def spF (S : Addr) (p : Int) (n : Nat) (R : List Rw) : List (Str × D) := [("_prime", .int p), ("_size", .int n), ("_rows", .lst (R.map D.tfz)), ("_reduced", .tup (R.map fun r => dSum S p (.tfz r)))]
def dSpace (S C : Addr) (p : Int) (n : Nat) (R : List Rw) : D := .ins C (spF S p n R)
theorem apart_tfz (k : Nat) : ∀ R : List Rw, apartA k (R.map D.tfz) = true
  | [] => rfl
  | r :: R => apart_tfz k R
theorem apart_sums (S : Addr) (p : Int) (k : Nat) : ∀ R : List Rw, apartA k (R.map fun r => dSum S p (.tfz r)) = true
  | [] => rfl
  | r :: R => apart_sums S p k R
theorem okM_ins {M : Ms} {j : Nat} {C : Addr} {fs : List (Str × D)} (h : okM M) (hf : apartF M.length fs = true) : okM (M.set j (.ins C fs)) := by
  unfold okM at h ⊢
  rw [List.length_set]
  refine List.all_eq_true.mpr fun m hm => ?_
  rcases List.mem_or_eq_of_mem_set hm with h1 | h1
  · exact List.all_eq_true.mp h m h1
  · rw [h1]; exact hf
theorem sum_ok {p : Int} {n : Nat} {SP : List (List Rw)} (U : Univ p n SP) {y : Rw} (h : y ∈ allD p n) : SumOk p y := by
  obtain ⟨g, g1, g2⟩ := U.g
  obtain ⟨h1, h2⟩ := allD_mem h
  have := U.n1
  exact ⟨g, g1, by rw [h1]; omega, by rw [h1]; exact g2, h2⟩
theorem lead_all {p : Int} {n : Nat} {SP : List (List Rw)} (U : Univ p n SP) {R : List Rw} (hR : R ∈ SP) {l : Rw} (hl : l ∈ R) : l ∈ allD p n := by
  obtain ⟨h1, h2, h3⟩ := U.lrow R hR l hl
  exact mem_allD (by have := U.p2; omega) h1 h3
section
variable {P : Program} {w : World} {K : PySem.W.Frag} {mg : Str → Option Value} {base : Heap}
def W_spp (S C : Addr) : DC := fun ds M Q => ∃ (p : Int) (n : Nat) (R : List Rw), ds = [dSpace S C p n R] ∧ Q (.int p) M
theorem ok_Space_prime (T : Tx P w K mg) : FnOk P w K mg base CX0 1 T.a_Space_prime T.f_Space_prime ["self"] (spD 1 (W_spp T.a_Sum T.a_Space) K) := by
  refine pd_fn T.F_Space_prime sc_Space_prime (fun cdv A outer s H E hr => ⟨_, (pdss_one (pds_ret (pd_fldK (K := K) rfl (pd_name 0)))), fun ds M Q hl h => ?_⟩)
  obtain ⟨p, n, R, rfl, q⟩ := h
  exact ⟨_, rfl, _, _, _, rfl, T.c_Space.cl, T.ns_prime, rfl, q⟩
def W_sps (S C : Addr) : DC := fun ds M Q => ∃ (p : Int) (n : Nat) (R : List Rw), ds = [dSpace S C p n R] ∧ Q (.int n) M
theorem ok_Space_size (T : Tx P w K mg) : FnOk P w K mg base CX0 1 T.a_Space_size T.f_Space_size ["self"] (spD 1 (W_sps T.a_Sum T.a_Space) K) := by
  refine pd_fn T.F_Space_size sc_Space_size (fun cdv A outer s H E hr => ⟨_, (pdss_one (pds_ret (pd_fldK (K := K) rfl (pd_name 0)))), fun ds M Q hl h => ?_⟩)
  obtain ⟨p, n, R, rfl, q⟩ := h
  exact ⟨_, rfl, _, _, _, rfl, T.c_Space.cl, T.ns_size, rfl, q⟩
def W_spr (S C : Addr) : DC := fun ds M Q => ∃ (p : Int) (n : Nat) (R : List Rw), ds = [dSpace S C p n R] ∧ Q (.tup (R.map fun r => dSum S p (.tfz r))) M
theorem ok_Space_reduced_sums (T : Tx P w K mg) : FnOk P w K mg base CX0 1 T.a_Space_reduced_sums T.f_Space_reduced_sums ["self"] (spD 1 (W_spr T.a_Sum T.a_Space) K) := by
  refine pd_fn T.F_Space_reduced_sums sc_Space_reduced_sums (fun cdv A outer s H E hr => ⟨_, (pdss_one (pds_ret (pd_fldK (K := K) rfl (pd_name 0)))), fun ds M Q hl h => ?_⟩)
  obtain ⟨p, n, R, rfl, q⟩ := h
  exact ⟨_, rfl, _, _, _, rfl, T.c_Space.cl, T.ns_reduced, rfl, q⟩
def W_spinit (S C : Addr) : DC := fun ds M Q => ∃ (j : Nat) (p : Int) (n : Nat) (SP : List (List Rw)) (fsD : List D) (rows : List Rw), ds = [.mu j, .int p, .int n, .lst (fsD.map (dSum S p))] ∧ M[j]? = some (.ins C []) ∧ okM M ∧ Univ p n SP ∧ fsD.map fgD = rows.map tD ∧ fsD.length ≤ 1000 ∧ (∀ y ∈ rows, y ∈ allD p n) ∧ Q .non (M.set j (.ins C (spF S p n (red p rows))))
theorem ok_Space_init (T : Tx P w K mg) : FnOk P w K mg base CX0 6 T.a_Space_init T.f_Space_init ["self", "prime", "size", "sums"] (spD 4 (W_spinit T.a_Sum T.a_Space) K) := by
  refine pd_fnD T.F_Space_init sc_Space_init (fun cdv A outer s H E hr => ⟨_, (pdss_cons (pds_expr (pd_call (ok_expect_prime_and_size T) (hr.mono (by decide)) (by rfl) T.g_expect_prime_and_size T.F_expect_prime_and_size.kp T.b_expect_prime_and_size (pda_cons (pd_name 1) (pda_cons (pd_name 2) pda_nil))))
      (pdss_cons (pds_if (pdt_not (pdt_val (pd_isi2 (T1 := "list") (T2 := "tuple") (by rfl) T.n_isinstance (pd_name 3) (by rfl) T.n_list (by decide +kernel) (by rfl) T.n_tuple (by decide +kernel)))) (pdss_one pds_never) pdss_nil)
      (pdss_cons (pds_for PassesOwn.never rfl (pdi_seq (pd_name 3)) (pdg_name 4 sc_Space_init.nd) (pdss_one (pds_if (pdt_not (pdt_val (pd_call (ok_is_sum T) (hr.mono (by decide)) (by rfl) T.g_is_sum T.F_is_sum.kp T.b_is_sum (pda_cons (pd_name 1) (pda_cons (pd_name 2) (pda_cons (pd_name 4) pda_nil)))))) (pdss_one pds_never) pdss_nil)))
      (pdss_cons (pds_fldM (pd_name 1) (pd_name 0))
      (pdss_cons (pds_fldM (pd_name 2) (pd_name 0))
      (pdss_cons (pds_fldM (pd_call (ok_reduced_rows T) (hr.mono (by decide)) (by rfl) T.g_reduced_rows T.F_reduced_rows.kp T.b_reduced_rows (pda_cons (pd_name 1) (pda_cons (pd_lc [("item", 4)] rfl sc_Space_init.nd (pdi_seq (pd_name 3)) (blkOk_by (N := ["self", "prime", "size", "sums", "item", "row"]) (sc := defScope s_Space_init) (by decide +kernel)) (fun _ _ _ _ _ => (pdg_name 4 sc_Space_init.nd)) (fun _ _ _ _ _ => pdts_nil) (fun _ _ _ _ _ => (pd_prop (pd_name 4) T.c_Sum.cl T.pp_Sum_factors (ok_Sum_factors T) (hr.mono (by decide)) T.b_Sum_factors))) pda_nil))) (pd_name 0))
      (pdss_one (pds_fldM (pd_callTy call_tuple_of sc_tuple (by rfl) T.n_tuple (by decide +kernel) (pda_cons (pd_lc [("row", 5)] rfl sc_Space_init.nd (pdi_list (pd_fldMu (K := K) rfl (pd_name 0))) (blkOk_by (N := ["self", "prime", "size", "sums", "item", "row"]) (sc := defScope s_Space_init) (by decide +kernel)) (fun _ _ _ _ _ => (pdg_name 5 sc_Space_init.nd)) (fun _ _ _ _ _ => pdts_nil) (fun _ _ _ _ _ => (pd_make T.m_Sum (ok_Sum_init T) (hr.mono (by decide)) (by rfl) T.g_Sum T.b_Sum_init (pda_cons (pd_name 1) (pda_cons (pd_name 5) pda_nil))))) pda_nil)) (pd_name 0))))))))), fun ds M Q hl h => ?_⟩)
  obtain ⟨j, p, n, SP, fsD, rows, rfl, hm, hM, U, hfs, hz, hrows, q⟩ := h
  have hs : sizeLine = 16777216 := by decide
  have hj : j < M.length := (List.getElem?_eq_some_iff.mp hm).1
  obtain ⟨g, g1, g2⟩ := U.g
  have hn1 := U.n1
  have hRS : red p rows ∈ SP := red_in U _ _ U.nil hrows
  refine ⟨.int p, rfl, .int n, rfl, rfl, p, g, n, rfl, g1, by omega, g2, ?_⟩
  refine ⟨_, rfl, .type "list", true, .lst _, rfl, true, rfl, ?_⟩
  refine ⟨_, rfl, _, .inl rfl, for_ind (fun k ρ M' => M' = M ∧ ∃ x, ρ = [some (.mu j), some (.int p), some (.int n), some (.lst (fsD.map (dSum T.a_Sum p))), x, none]) _ ?_ ?_ ⟨rfl, none, rfl⟩⟩
  · rintro k d ρ M' N hd ⟨rfl, x, rfl⟩ hN
    rw [List.getElem?_map] at hd
    cases e : fsD[k]? with
    | none => rw [e] at hd; cases hd
    | some f =>
      rw [e] at hd
      cases hd
      obtain ⟨hk, hf⟩ := fg_at hfs e
      obtain ⟨y1, y2⟩ := allD_mem (hrows _ (List.getElem_mem hk))
      exact ⟨.int p, rfl, .int n, rfl, _, rfl, rfl, p, n, _, rfl, .inl ⟨p, f, _, rfl, hf, true, by rw [y1, decide_eq_true rfl, decide_eq_true rfl]; rfl, hN _ _ ⟨rfl, _, rfl⟩⟩⟩
  · rintro ρ M' ⟨rfl, x, rfl⟩
    have gj : ∀ fs, (M'.set j (.ins T.a_Space fs))[j]? = some (.ins T.a_Space fs) := fun fs => List.getElem?_set_self hj
    refine ⟨.int p, rfl, .mu j, rfl, j, T.a_Space, [], rfl, hm, T.c_Space.cl, T.ns_prime, by decide, ?_⟩
    refine ⟨.int n, rfl, .mu j, rfl, j, T.a_Space, _, rfl, gj _, T.c_Space.cl, T.ns_size, (by show 1 < 1000; decide), ?_⟩
    rw [List.set_set]
    refine ⟨.int p, rfl, _, rfl, _, .inl rfl, lc_map (fun d => match d with | .ins _ [_, (_, f)] => f | d => d) _ _ (fun d hd R3 hR3 => ?_) (by rw [List.length_nil, List.length_map]; omega) ?_⟩
    · obtain ⟨f, hf, rfl⟩ := List.mem_map.mp hd
      exact ⟨_, rfl, _, rfl, p, f, rfl, hR3⟩
    · rw [List.nil_append, List.map_map]
      have e1 : fsD.map ((fun d => match d with | .ins _ [_, (_, f)] => f | d => d) ∘ dSum T.a_Sum p) = fsD := by
        conv => rhs; rw [← List.map_id fsD]
        rfl
      rw [e1]
      have hrl : rows.length ≤ 1000 := by
        have := congrArg List.length hfs
        rw [List.length_map, List.length_map] at this
        omega
      refine ⟨rfl, red_of U hfs hrl hrows ?_⟩
      generalize red p rows = R at hRS q ⊢
      have hlen := U.len R hRS
      refine ⟨.mu j, rfl, j, T.a_Space, _, rfl, gj _, T.c_Space.cl, T.ns_rows, (by show 2 < 1000; decide), ?_⟩
      rw [List.set_set]
      have hM2 : okM (M'.set j (.ins T.a_Space [("_prime", .int p), ("_size", .int n), ("_rows", .lst (R.map D.tfz))])) := okM_ins hM (by
        show (true && (true && (apartA _ (R.map D.tfz) && true))) = true
        rw [apart_tfz]; rfl)
      refine ⟨.mu j, rfl, j, T.a_Space, _, _, rfl, gj _, T.c_Space.cl, T.ns_rows, rfl, R.map D.tfz, rfl, lc_map (fun d => dSum T.a_Sum p d) _ _ (fun d hd R3 hR3 => ?_) (by rw [List.length_nil, List.length_map]; omega) ?_⟩
      · obtain ⟨l, hl', rfl⟩ := List.mem_map.mp hd
        exact ⟨.int p, rfl, .tfz l, rfl, make_sum (sum_ok U (lead_all U hRS hl')) (.inr (.inr ⟨rfl, rfl⟩)) hM2 hR3⟩
      · rw [List.nil_append, List.map_map]
        refine ⟨_, _, rfl, .inl rfl, .mu j, rfl, j, T.a_Space, _, rfl, gj _, T.c_Space.cl, T.ns_reduced, (by show 3 < 1000; decide), ?_⟩
        rw [List.set_set]
        exact q
theorem make_space {S C : Addr} {p : Int} {n : Nat} {SP : List (List Rw)} {fsD : List D} {rows : List Rw} {M : Ms} {P : D → Ms → Prop} (U : Univ p n SP) (hfs : fsD.map fgD = rows.map tD) (hz : fsD.length ≤ 1000) (hrows : ∀ y ∈ rows, y ∈ allD p n) (hM : okM M) (hM' : okM (M ++ [.ins C []])) (q : P (dSpace S C p n (red p rows)) M) :
    ([.int p, .int n, .lst (fsD.map (dSum S p))] : List D).length + 1 = 4 ∧ W_spinit S C (.mu M.length :: [.int p, .int n, .lst (fsD.map (dSum S p))]) (M ++ [.ins C []]) fun d M2 => ∃ M3 fs, d = .non ∧ M2 = M3 ++ [.ins C fs] ∧ M3.length = M.length ∧ apartF M.length fs = true ∧ apartM M.length M3 = true ∧ P (.ins C fs) M3 :=
  ⟨rfl, _, p, n, SP, fsD, rows, rfl, get_last _ _, hM', U, hfs, hz, hrows, M, _, rfl, set_last _ _ _, rfl, by
    show (true && (true && (apartA _ _ && (apartA _ _ && true)))) = true
    rw [apart_tfz, apart_sums]; rfl, hM, q⟩
def W_spwhole (S C : Addr) : DC := fun ds M Q => ∃ (p : Int) (n : Nat) (R : List Rw), ds = [dSpace S C p n R] ∧ Q (.bl (decide ((R.length : Int) = n))) M
theorem ok_Space_is_whole (T : Tx P w K mg) : FnOk P w K mg base CX0 1 T.a_Space_is_whole T.f_Space_is_whole ["self"] (spD 1 (W_spwhole T.a_Sum T.a_Space) K) := by
  refine pd_fn T.F_Space_is_whole sc_Space_is_whole (fun cdv A outer s H E hr => ⟨_, (pdss_one (pds_ret (pd_cmp (op_eqD hr.units) sr_eq (pd_callB call_len_seq sc_len (by rfl) T.n_len (by decide +kernel) (pda_cons (pd_fldK (K := K) rfl (pd_name 0)) pda_nil)) (pd_fldK (K := K) rfl (pd_name 0)) (nomark _)))), fun ds M Q hl h => ?_⟩)
  obtain ⟨p, n, R, rfl, q⟩ := h
  refine ⟨_, rfl, _, _, _, rfl, T.c_Space.cl, T.ns_reduced, rfl, _, .inr rfl, _, rfl, _, _, _, rfl, T.c_Space.cl, T.ns_size, rfl, rfl, rfl, ?_⟩
  rw [List.length_map, eqD_int]
  exact q
def W_bfor (S C : Addr) : DC := fun ds M Q => ∃ (p : Int) (n : Nat) (SP : List (List Rw)) (R : List Rw) (f : D) (y : Rw), ds = [dSpace S C p n R, .lst [dSum S p f]] ∧ Univ p n SP ∧ R ∈ SP ∧ fgD f = .tup (dI y) ∧ y ∈ allD p n ∧ (match blind p n R y with | none => Q .non M | some d => Q (.tfz d) M)
theorem ok_blind_for (T : Tx P w K mg) : FnOk P w K mg base CX0 6 T.a_blind_for T.f_blind_for ["space", "items"] (spD 2 (W_bfor T.a_Sum T.a_Space) K) := by
  refine pd_fn T.F_blind_for sc_blind_for (fun cdv A outer s H E hr => ⟨_, (pdss_cons (pds_setLc 2 [("item", 5)] rfl sc_blind_for.nd rfl rfl (sw_true rfl rfl rfl (by decide +kernel)) (pdi_tup (pd_prop (pd_name 0) T.c_Space.cl T.pp_Space_reduced_sums (ok_Space_reduced_sums T) (hr.mono (by decide)) T.b_Space_reduced_sums)) (blkOk_by (N := ["space", "items", "rows", "leads", "data", "item"]) (sc := defScope s_blind_for) (by decide +kernel)) (fun _ _ _ _ _ => (pdg_name 5 sc_blind_for.nd)) (fun _ _ _ _ _ => pdts_nil) (fun _ _ _ _ _ => (pd_prop (pd_name 5) T.c_Sum.cl T.pp_Sum_factors (ok_Sum_factors T) (hr.mono (by decide)) T.b_Sum_factors)))
      (pdss_cons (pds_set 3 sc_blind_for.nd (pd_call (ok_zero_rows T) (hr.mono (by decide)) (by rfl) T.g_zero_rows T.F_zero_rows.kp T.b_zero_rows (pda_cons (pd_prop (pd_name 0) T.c_Space.cl T.pp_Space_prime (ok_Space_prime T) (hr.mono (by decide)) T.b_Space_prime) (pda_cons (pd_prop (pd_name 0) T.c_Space.cl T.pp_Space_size (ok_Space_size T) (hr.mono (by decide)) T.b_Space_size) (pda_cons (pd_name 2) pda_nil)))))
      (pdss_cons (pds_for PassesOwn.never rfl (pdi_rev (by rfl) T.n_reversed (pd_callTy call_list_of sc_list (by rfl) T.n_list (by decide +kernel) (pda_cons (pd_name 3) pda_nil))) (pdg_name 4 sc_blind_for.nd) (pdss_one (pds_if (pdt_val (pd_callB (cr_anyLI rfl) sc_anyLI (by rfl) T.n_any (by decide +kernel) (pda_cons (pd_lc [("item", 5)] rfl sc_blind_for.nd (pdi_list (pd_name 1)) (blkOk_by (N := ["space", "items", "rows", "leads", "data", "item"]) (sc := defScope s_blind_for) (by decide +kernel)) (fun _ _ _ _ _ => (pdg_name 5 sc_blind_for.nd)) (fun _ _ _ _ _ => pdts_nil) (fun _ _ _ _ _ => (pd_callO (pd_name 5) T.call_Sum (ok_Sum_call T) T.b_Sum_call (hr.mono (by decide)) (pda_cons (pd_fg (pd_name 4)) pda_nil)))) pda_nil))) (pdss_one (pds_ret (pd_name 4))) pdss_nil)))
      (pdss_one (pds_ret pd_non))))), fun ds M Q hl h => ?_⟩)
  obtain ⟨p, n, SP, R, f, y, rfl, U, hR, hf, hy, q⟩ := h
  have hs : sizeLine = 16777216 := by decide
  have hlen := U.len R hR
  refine ⟨_, rfl, _, rfl, p, n, R, rfl, _, rfl, lc_map (fun d => match d with | .ins _ [_, (_, f)] => f | d => d) _ _ (fun d hd R3 hR3 => ?_) (by rw [List.length_nil, List.length_map]; omega) ?_⟩
  · obtain ⟨l, hl', rfl⟩ := List.mem_map.mp hd
    exact ⟨_, rfl, _, rfl, p, _, rfl, hR3⟩
  rw [List.nil_append, List.map_map]
  have e1 : R.map ((fun d => match d with | .ins _ [_, (_, f)] => f | d => d) ∘ fun r => dSum T.a_Sum p (.tfz r)) = R.map D.tfz := rfl
  rw [e1]
  refine ⟨_, rfl, _, rfl, p, n, R, rfl, _, rfl, _, rfl, p, n, R, rfl, _, rfl, rfl, p, n, SP, R, rfl, U, hR, ?_⟩
  refine ⟨_, rfl, _, _, rfl, .inl rfl, _, rfl, ?_⟩
  rw [← List.map_reverse]
  have hZ := zrows_in U R
  have hbl : blind p n R y = (zrows p n R).reverse.find? fun d => dot y d p != 0 := rfl
  rw [hbl] at q
  have hmem : ∀ d ∈ (zrows p n R).reverse, d ∈ allD p n := fun d hd => lead_all U hZ (List.mem_reverse.mp hd)
  generalize (zrows p n R).reverse = Z at q hmem ⊢
  refine for_ind (fun k ρ M' => M' = M ∧ (∃ x4, ρ = [some (dSpace T.a_Sum T.a_Space p n R), some (.lst [dSum T.a_Sum p f]), some (.lst (R.map D.tfz)), some (.lst ((zrows p n R).map D.tfz)), x4, none]) ∧ ∀ d ∈ Z.take k, (dot y d p != 0) = false) _ ?_ ?_ ⟨rfl, ⟨none, rfl⟩, fun d hd => by rw [List.take_zero] at hd; cases hd⟩
  · rintro k d ρ M' N hd ⟨rfl, ⟨x4, rfl⟩, hno⟩ hN
    have hk : k < Z.length := by have := (List.getElem?_eq_some_iff.mp hd).1; rwa [List.length_map] at this
    rw [List.getElem?_map, List.getElem?_eq_getElem hk] at hd
    cases hd
    have hza := hmem _ (List.getElem_mem hk)
    obtain ⟨z1, z2⟩ := allD_mem hza
    obtain ⟨y1, y2⟩ := allD_mem hy
    refine ⟨_, rfl, _, rfl, lc_map (fun _ => .int (dot y Z[k] p)) _ _ (fun d3 hd3 R3 hR3 => ?_) (by show 1 ≤ sizeLine; decide) ?_⟩
    · rw [List.mem_singleton.mp hd3]
      exact ⟨_, rfl, _, rfl, .tfz Z[k], rfl, rfl, p, f, y, _, Z[k], rfl, hf, sum_ok U hy, sum_ok U hza, .inr rfl, by rw [z1, y1], hR3⟩
    · refine ⟨[dot y Z[k] p], rfl, (dot y Z[k] p != 0), by simp, ?_⟩
      cases h0 : (dot y Z[k] p != 0) with
      | false =>
        refine hN _ _ ⟨rfl, ⟨_, rfl⟩, fun d hd => ?_⟩
        rw [List.take_succ_eq_append_getElem hk] at hd
        rcases List.mem_append.mp hd with h1 | h1
        · exact hno d h1
        · rw [List.mem_singleton.mp h1]; exact h0
      | true =>
        have e : Z.find? (fun d => dot y d p != 0) = some Z[k] := by
          conv => lhs; rw [← List.take_append_drop k Z, List.drop_eq_getElem_cons hk]
          rw [List.find?_append, List.find?_eq_none.mpr (fun d hd => by rw [hno d hd]; decide), List.find?_cons_of_pos (by exact h0)]
          rfl
        rw [e] at q
        exact ⟨_, rfl, q⟩
  · rintro ρ M' ⟨rfl, ⟨x4, rfl⟩, hno⟩
    rw [List.length_map, List.take_length] at hno
    have e : Z.find? (fun d => dot y d p != 0) = none := List.find?_eq_none.mpr fun d hd => by rw [hno d hd]; decide
    rw [e] at q
    exact q
def W_bdata (S C : Addr) : DC := fun ds M Q => ∃ (p : Int) (n : Nat) (SP : List (List Rw)) (R : List Rw) (f : D) (y : Rw), ds = [dSpace S C p n R, dSum S p f] ∧ Univ p n SP ∧ R ∈ SP ∧ fgD f = .tup (dI y) ∧ y ∈ allD p n ∧ (match blind p n R y with | none => Q .non M | some d => Q (.tfz d) M)
theorem ok_Space_blind_data (T : Tx P w K mg) : FnOk P w K mg base CX0 7 T.a_Space_blind_data T.f_Space_blind_data ["self", "item"] (spD 2 (W_bdata T.a_Sum T.a_Space) K) := by
  refine pd_fn T.F_Space_blind_data sc_Space_blind_data (fun cdv A outer s H E hr => ⟨_, (pdss_cons (pds_if (pdt_not (pdt_val (pd_call (ok_is_sum T) (hr.mono (by decide)) (by rfl) T.g_is_sum T.F_is_sum.kp T.b_is_sum (pda_cons (pd_fldK (K := K) rfl (pd_name 0)) (pda_cons (pd_fldK (K := K) rfl (pd_name 0)) (pda_cons (pd_name 1) pda_nil)))))) (pdss_one pds_never) pdss_nil)
      (pdss_one (pds_ret (pd_call (ok_blind_for T) (hr.mono (by decide)) (by rfl) T.g_blind_for T.F_blind_for.kp T.b_blind_for (pda_cons (pd_name 0) (pda_cons (pd_lst (pda_cons (pd_name 1) pda_nil)) pda_nil)))))), fun ds M Q hl h => ?_⟩)
  obtain ⟨p, n, SP, R, f, y, rfl, U, hR, hf, hy, q⟩ := h
  obtain ⟨y1, y2⟩ := allD_mem hy
  refine ⟨_, rfl, _, _, _, rfl, T.c_Space.cl, T.ns_prime, rfl, _, rfl, _, _, _, rfl, T.c_Space.cl, T.ns_size, rfl, _, rfl, rfl, p, n, _, rfl, .inl ⟨p, f, y, rfl, hf, true, by rw [y1, decide_eq_true rfl, decide_eq_true rfl]; rfl, ?_⟩⟩
  exact ⟨_, rfl, _, rfl, (by show 1 ≤ sizeLine; decide), rfl, p, n, SP, R, f, y, rfl, U, hR, hf, hy, q⟩
end
end K11
set_option Elab.async false
set_option linter.all false
set_option maxRecDepth 100000
set_option maxHeartbeats 4000000
namespace K11
open PySem PySem.Spec PyProof.Rows L2 Pd Spc
/-- the rows of p numbers below n, ascending -/
theorem p29 : (0 : Int) < 2147483629 := by decide
theorem p47 : (0 : Int) < 2147483647 := by decide
theorem z2 : 2 ≤ sizeLine := by decide
theorem i12 : (1 : Nat) < 2 := by decide
/-- the law's source -/
def Src (M : Ms) : Prop := ∃ n s : Int, M = [.lst [.int n, .int s]] ∧ 0 ≤ s ∧ s < 2147483647
theorem Src.ok {M : Ms} (h : Src M) : okM M := by
  obtain ⟨n, s, rfl, _⟩ := h
  rfl
section
variable {P : Program} {w : World} {K : PySem.W.Frag} {mg : Str → Option Value} {base : Heap}
def W_source : DCN := fun ds M Q => ∃ (ns : List Int) (k : Int), ds = [.lst (dI ns), .int k] ∧ 0 ≤ k ∧ ∀ n s : Int, 0 ≤ s → s < 2147483647 → Q [.int n, .int s] M
theorem ok_law_source (T : Tx P w K mg) : FnOk P w K mg base CX0 1 T.a_law_source T.f_law_source ["_law_script", "_law_turn"] (spN 2 W_source K) := by
  refine pd_fnN T.F_law_source sc_law_source (fun cdv A outer s H E hr => ⟨_, (pdn_cons (pds_set 2 sc_law_source.nd pd_int)
      (pdn_cons (pds_if (pdt_cmp op_lt sr_I0b (pd_name 1) (pd_callB call_len_seq sc_len (by rfl) T.n_len (by decide +kernel) (pda_cons (pd_name 0) pda_nil)) (nomark _)) (pdss_one (pds_set 2 sc_law_source.nd (pd_ix ix_list sr_ixL (pd_name 0) (pd_name 1)))) pdss_nil)
      (pdn_cons (pds_set 3 sc_law_source.nd (pd_callB (call_max2 rfl) sc_max (by rfl) T.n_max (by decide +kernel) (pda_cons (pd_name 2) (pda_cons (pd_op op_sub sr_I0i (pd_un un_neg su_U pd_int) (pd_name 2)) pda_nil))))
      (pdn_cons (pds_set 4 sc_law_source.nd (pd_op op_mod sr_I (pd_callTy call_int1 sc_int (by rfl) T.n_int (by decide +kernel) (pda_cons (pd_op op_add sr_I0i (pd_op op_add sr_I0i (pd_op op_mul sr_I (pd_op op_mod sr_I (pd_callTy call_int1 sc_int (by rfl) T.n_int (by decide +kernel) (pda_cons (pd_name 3) pda_nil)) pd_int) pd_int) (pd_op op_mul sr_I pd_int (pd_name 1))) pd_int) pda_nil)) pd_int))
      (pdn_cons (pds_if (pdt_cmp op_lt sr_I0b (pd_name 3) (pd_op op_pow sr_I pd_int pd_int) (nomark _)) (pdss_one (pds_set 3 sc_law_source.nd pd_int)) pdss_nil)
      (pdn_ret (pda_cons (pd_name 3) (pda_cons (pd_name 4) pda_nil)))))))), fun ds M Q hl h => ?_⟩)
  obtain ⟨ns, k, rfl, hk, q⟩ := h
  have m1 : ∀ x : Int, 0 ≤ x % 2147483647 ∧ x % 2147483647 < 2147483647 := fun x => ⟨Int.emod_nonneg _ (by decide), Int.emod_lt_of_pos _ (by decide)⟩
  refine ⟨.int k, rfl, _, rfl, dI ns, .inl rfl, _, _, rfl, rfl, decide (k < ((dI ns).length : Int)), rfl, ?_⟩
  by_cases hc : k < ((dI ns).length : Int)
  · rw [decide_eq_true hc]
    have hlt : k.toNat < ns.length := by rw [List.length_map] at hc; omega
    have hv : (dI ns)[k.toNat]? = some (.int ns[k.toNat]) := by rw [List.getElem?_map, List.getElem?_eq_getElem hlt]; rfl
    refine ⟨_, rfl, _, rfl, dI ns, k, _, rfl, rfl, ⟨hk, hv⟩, ?_⟩
    refine ⟨_, rfl, 1, rfl, _, rfl, _, _, rfl, rfl, _, _, rfl, ?_⟩
    refine ⟨_, rfl, .inl ⟨_, rfl, _, _, rfl, rfl, p29, _, _, rfl, rfl, .inr ⟨by decide, by decide⟩, .int k, rfl, _, _, rfl, rfl, .inl ⟨by decide, by decide⟩, _, _, rfl, rfl, _, _, rfl, rfl, .inl ⟨_, rfl, _, _, rfl, rfl, p47, ?_⟩⟩⟩
    refine ⟨_, rfl, _, _, rfl, rfl, ⟨by decide, by decide, by decide⟩, _, _, rfl, rfl, _, rfl, ?_⟩
    refine bsplit (fun _ => ?_) (fun _ => ?_)
    · exact ⟨_, rfl, _, rfl, z2, q _ _ (m1 _).1 (m1 _).2⟩
    · exact ⟨_, rfl, _, rfl, z2, q _ _ (m1 _).1 (m1 _).2⟩
  · rw [decide_eq_false hc]
    refine ⟨_, rfl, 1, rfl, _, rfl, _, _, rfl, rfl, _, _, rfl, ?_⟩
    refine ⟨_, rfl, .inl ⟨_, rfl, _, _, rfl, rfl, p29, _, _, rfl, rfl, .inr ⟨by decide, by decide⟩, .int k, rfl, _, _, rfl, rfl, .inl ⟨by decide, by decide⟩, _, _, rfl, rfl, _, _, rfl, rfl, .inl ⟨_, rfl, _, _, rfl, rfl, p47, ?_⟩⟩⟩
    refine ⟨_, rfl, _, _, rfl, rfl, ⟨by decide, by decide, by decide⟩, _, _, rfl, rfl, _, rfl, ?_⟩
    refine bsplit (fun _ => ?_) (fun _ => ?_)
    · exact ⟨_, rfl, _, rfl, z2, q _ _ (m1 _).1 (m1 _).2⟩
    · exact ⟨_, rfl, _, rfl, z2, q _ _ (m1 _).1 (m1 _).2⟩
def W_draw : DC := fun ds M Q => ∃ (a : Int), ds = [.mu 0, .int a] ∧ SrcAt 0 M ∧ 0 < a ∧ a < 1073741824 ∧ ∀ r M', Cu 0 M M' → 0 ≤ r → r < a → Q (.int r) M'
theorem ok_law_draw (T : Tx P w K mg) : FnOk P w K mg base CX0 1 T.a_law_draw T.f_law_draw ["_law_source_here", "_law_amount"] (spD 2 W_draw K) := by
  refine pd_fn T.F_law_draw sc_law_draw (fun cdv A outer s H E hr => ⟨_, (pdss_cons (pds_if (pdt_cmp op_gt sr_I0b (pd_ix ix_list sr_ixM (pd_name 0) pd_int) pd_int (nomark _)) (pdss_cons (pds_set 2 sc_law_draw.nd (pd_op op_mod sr_I (pd_callTy call_int1 sc_int (by rfl) T.n_int (by decide +kernel) (pda_cons (pd_ix ix_list sr_ixM (pd_name 0) pd_int) pda_nil)) (pd_name 1)))
      (pdss_cons (pds_setItem (pd_op op_fdiv sr_I (pd_ix ix_list sr_ixM (pd_name 0) pd_int) (pd_name 1)) (pd_name 0) pd_int)
      (pdss_one (pds_ret (pd_name 2))))) pdss_nil)
      (pdss_cons (pds_setItem (pd_op op_mod sr_I (pd_callTy call_int1 sc_int (by rfl) T.n_int (by decide +kernel) (pda_cons (pd_op op_add sr_I0i (pd_op op_mul sr_I (pd_ix ix_list sr_ixM (pd_name 0) pd_int) pd_int) pd_int) pda_nil)) pd_int) (pd_name 0) pd_int)
      (pdss_one (pds_ret (pd_op op_mod sr_I (pd_callTy call_int1 sc_int (by rfl) T.n_int (by decide +kernel) (pda_cons (pd_op op_fdiv sr_I (pd_op op_mod sr_I (pd_callTy call_int1 sc_int (by rfl) T.n_int (by decide +kernel) (pda_cons (pd_op op_mul sr_I (pd_ix ix_list sr_ixM (pd_name 0) pd_int) (pd_ix ix_list sr_ixM (pd_name 0) pd_int)) pda_nil)) pd_int) pd_int) pda_nil)) (pd_name 1)))))), fun ds M Q hl h => ?_⟩)
  obtain ⟨a, rfl, ⟨n, sd, hm, h1, h2⟩, ha, hb, q⟩ := h
  have hk : 0 < M.length := (List.getElem?_eq_some_iff.mp hm).1
  refine ⟨.mu 0, rfl, 0, _, 0, .int n, rfl, rfl, hm, ⟨by decide, rfl⟩, n, 0, rfl, rfl, decide (0 < n), rfl, ?_⟩
  by_cases hc : 0 < n
  · rw [decide_eq_true hc]
    refine ⟨.mu 0, rfl, 0, _, 0, .int n, rfl, rfl, hm, ⟨by decide, rfl⟩, .inl ⟨n, rfl, .int a, rfl, _, _, rfl, rfl, ha, ?_⟩⟩
    refine ⟨.mu 0, rfl, 0, _, 0, .int n, rfl, rfl, hm, ⟨by decide, rfl⟩, .int a, rfl, _, _, rfl, rfl, ⟨ha, hb⟩, .mu 0, rfl, 0, _, 0, rfl, rfl, hm, ⟨by decide, (by show 0 < 2; decide)⟩, ?_⟩
    exact ⟨_, rfl, q _ _ ⟨_, _, h1, h2, rfl⟩ (Int.emod_nonneg _ (by omega)) (Int.emod_lt_of_pos _ ha)⟩
  · rw [decide_eq_false hc]
    have m1 : ∀ x : Int, 0 ≤ x % 2147483647 ∧ x % 2147483647 < 2147483647 := fun x => ⟨Int.emod_nonneg _ (by decide), Int.emod_lt_of_pos _ (by decide)⟩
    refine ⟨.mu 0, rfl, 0, _, 1, .int sd, rfl, rfl, hm, ⟨by decide, rfl⟩, _, _, rfl, rfl, .inr ⟨by decide, by decide⟩, _, _, rfl, rfl, .inl ⟨_, rfl, _, _, rfl, rfl, p47, .mu 0, rfl, 0, _, 1, rfl, rfl, hm, ⟨by decide, (by show 1 < 2; decide)⟩, ?_⟩⟩
    have m2 := m1 (sd * 48271 + 11)
    have hs := List.getElem?_set_self (a := MO.lst ([D.int n, .int sd].set (1 : Int).toNat (.int ((sd * 48271 + 11) % 2147483647)))) hk
    refine ⟨.mu 0, rfl, 0, _, 1, _, rfl, rfl, hs, ⟨by decide, rfl⟩, .mu 0, rfl, 0, _, 1, _, rfl, rfl, hs, ⟨by decide, rfl⟩, _, _, rfl, rfl, .inl ⟨by omega, by omega⟩, .inl ⟨_, rfl, _, _, rfl, rfl, p29, _, _, rfl, rfl, ⟨by decide, by decide⟩, .inl ⟨_, rfl, .int a, rfl, _, _, rfl, rfl, ha, ?_⟩⟩⟩
    exact q _ _ ⟨_, _, m2.1, m2.2, rfl⟩ (Int.emod_nonneg _ (by omega)) (Int.emod_lt_of_pos _ ha)
end
end K11
set_option Elab.async false
set_option linter.all false
set_option maxRecDepth 100000
set_option maxHeartbeats 4000000
namespace K11
open PySem PySem.Spec PyProof.Rows L2 Pd
/-- a row of parts, or None -/
def rowLen : D → Nat | .tup xs => xs.length | .lst xs => xs.length | _ => 0
def rowB (d : D) : Prop := d = .non ∨ ∃ xs, isSeq d xs ∧ xs.length ≤ 3
def spotsFrom (i : Nat) : List D → List (List Int)
  | [] => []
  | d :: r => ((List.range (rowLen d)).map fun (j : Nat) => [(i : Int), (j : Int)]) ++ spotsFrom (i + 1) r
def keep : D → Option D | .tup [i, d] => if isNonD d = true then none else some (.tup [i, d]) | _ => none
def wide : D → List D | .tup [i, d] => (List.range (rowLen d)).map fun (j : Nat) => .tup [i, .int (j : Int)] | _ => []
theorem spots_eq : ∀ (rows : List D) (i : Nat), (∀ d ∈ rows, rowB d) → ((numd i rows).filterMap keep).flatMap wide = (spotsFrom i rows).map tI
  | [], _, _ => rfl
  | d :: r, i, h => by
    have ih := spots_eq r (i + 1) fun x hx => h x (List.mem_cons_of_mem _ hx)
    show ((D.tup [.int (i : Int), d] :: numd (i + 1) r).filterMap keep).flatMap wide = List.map tI (_ ++ _)
    rw [List.map_append, ← ih, List.filterMap_cons]
    rcases h d List.mem_cons_self with rfl | ⟨xs, hx, _⟩
    · rfl
    · have e : keep (.tup [.int (i : Int), d]) = some (.tup [.int (i : Int), d]) := by rcases hx with rfl | rfl <;> rfl
      rw [e]
      show List.flatMap wide (_ :: _) = _
      rw [List.flatMap_cons]
      congr 1
      show List.map _ _ = List.map _ (List.map _ _)
      rw [List.map_map]
      rfl
theorem spots_len : ∀ (rows : List D) (i : Nat), (∀ d ∈ rows, rowLen d ≤ 3) → (spotsFrom i rows).length ≤ 3 * rows.length
  | [], _, _ => Nat.zero_le _
  | d :: r, i, h => by
    have h1 := h d List.mem_cons_self
    have ih := spots_len r (i + 1) fun x hx => h x (List.mem_cons_of_mem _ hx)
    show (((List.range (rowLen d)).map fun (j : Nat) => [(i : Int), (j : Int)]) ++ spotsFrom (i + 1) r).length ≤ 3 * (r.length + 1)
    rw [List.length_append, List.length_map, List.length_range]
    omega
theorem rowB.len {d : D} (h : rowB d) : rowLen d ≤ 3 := by
  rcases h with rfl | ⟨xs, rfl | rfl, hl⟩
  · exact Nat.zero_le _
  · exact hl
  · exact hl
section
variable {P : Program} {w : World} {K : PySem.W.Frag} {mg : Str → Option Value} {base : Heap}
def W_spots_of : DC := fun ds M Q => ∃ d rows, ds = [d] ∧ isSeq d rows ∧ rows.length ≤ 6 ∧ (∀ x ∈ rows, rowB x) ∧ Q (.tup ((spotsFrom 0 rows).map tI)) M
theorem ok_spots_of_parts (T : Tx P w K mg) : FnOk P w K mg base CX0 1 T.a_spots_of_parts T.f_spots_of_parts ["pieces"] (spD 1 W_spots_of K) := by
  refine pd_fn T.F_spots_of_parts sc_spots_of_parts (fun cdv A outer s H E hr => ⟨_, (pdss_cons (pds_setLc 1 [("piece", 2), ("parts", 3)] rfl sc_spots_of_parts.nd rfl rfl (sw_true rfl rfl rfl (by decide +kernel)) (pdi_enumK (by rfl) T.n_enumerate (pda_cons (pd_name 0) pda_nil)) (blkOk_by (N := ["pieces", "there", "piece", "parts", "part"]) (sc := defScope s_spots_of_parts) (by decide +kernel)) (fun _ _ _ _ _ => (pdg_tup (n := 2) rfl (pdgs_cons (pdg_name 2 sc_spots_of_parts.nd) (pdgs_cons (pdg_name 3 sc_spots_of_parts.nd) pdgs_nil)))) (fun _ _ _ _ _ => pdts_one (pdt_cmp op_not0 sr_not0 (pd_name 3) pd_non (nomark _))) (fun _ _ _ _ _ => (pd_tup (pda_cons (pd_name 2) (pda_cons (pd_name 3) pda_nil)))))
      (pdss_one (pds_ret (pd_callTy call_tuple_of sc_tuple (by rfl) T.n_tuple (by decide +kernel) (pda_cons (pd_lc2 [("piece", 2), ("parts", 3), ("part", 4)] [4] rfl sc_spots_of_parts.nd (pdi_list (pd_name 1)) (blkOk_by (N := ["pieces", "there", "piece", "parts", "part"]) (sc := defScope s_spots_of_parts) (by decide +kernel)) (fun _ _ _ _ _ => (pdg_tup (n := 2) rfl (pdgs_cons (pdg_name 2 sc_spots_of_parts.nd) (pdgs_cons (pdg_name 3 sc_spots_of_parts.nd) pdgs_nil)))) (fun _ _ _ _ _ => pdts_nil) (fun _ _ _ _ _ => (pdi_range1 (by rfl) T.n_range (pda_cons (pd_callB call_len_seq sc_len (by rfl) T.n_len (by decide +kernel) (pda_cons (pd_name 3) pda_nil)) pda_nil))) (fun _ _ _ _ _ => (pdg_name 4 sc_spots_of_parts.nd)) (fun _ _ _ _ _ => pdts_nil) (fun _ _ _ _ _ => (pd_tup (pda_cons (pd_name 2) (pda_cons (pd_name 4) pda_nil))))) pda_nil))))), fun ds M Q hl h => ?_⟩)
  obtain ⟨d, rows, rfl, hd, h6, hb, q⟩ := h
  have hsl : sizeLine = 16777216 := by decide
  refine ⟨d, rfl, d, rows, rfl, hd, lc_fmap keep _ _ (fun e he R S hR hS => ?_) (by rw [List.length_nil, numd_len]; omega) ?_⟩
  · obtain ⟨j, hj⟩ := List.mem_iff_getElem?.mp he
    have hjl : j < rows.length := by have := (List.getElem?_eq_some_iff.mp hj).1; rwa [numd_len] at this
    have hx := numd_get rows 0 j _ (List.getElem?_eq_getElem hjl)
    rw [hx] at hj
    cases hj
    refine ⟨_, rfl, rfl, _, _, rfl, _, _, rfl, rfl, ?_⟩
    cases hn : isNonD rows[j] with
    | true => exact ⟨rows[j], rfl, rfl, false, by rw [hn]; rfl, hS (if_pos hn)⟩
    | false => exact ⟨rows[j], rfl, rfl, true, by rw [hn]; rfl, _, rfl, rows[j], rfl, (by show 2 ≤ sizeLine; decide), hR _ (if_neg (by rw [hn]; exact Bool.false_ne_true))⟩
  · refine ⟨_, rfl, _, rfl, lc2_map wide _ _ (fun e he acc k hz hk => ?_) ?_ ?_⟩
    · obtain ⟨a, ha, hka⟩ := List.mem_filterMap.mp he
      obtain ⟨j, hj⟩ := List.mem_iff_getElem?.mp ha
      have hjl : j < rows.length := by have := (List.getElem?_eq_some_iff.mp hj).1; rwa [numd_len] at this
      have hx := numd_get rows 0 j _ (List.getElem?_eq_getElem hjl)
      rw [hx] at hj
      cases hj
      have hrb := hb _ (List.getElem_mem hjl)
      generalize rows[j] = row at *
      have hnn : isNonD row = false ∧ e = .tup [.int ((0 + j : Nat) : Int), row] := by
        have h2 : (if isNonD row = true then none else some (D.tup [.int ((0 + j : Nat) : Int), row])) = some e := hka
        cases hn : isNonD row with
        | true => rw [hn, if_pos rfl] at h2; cases h2
        | false => rw [hn, if_neg Bool.false_ne_true] at h2; cases h2; exact ⟨rfl, rfl⟩
      obtain ⟨hnn, rfl⟩ := hnn
      obtain ⟨xs, hxs, hxl⟩ : ∃ xs, isSeq row xs ∧ xs.length ≤ 3 := by
        rcases hrb with rfl | h
        · cases hnn
        · exact h
      have hrl : rowLen row = xs.length := by rcases hxs with rfl | rfl <;> rfl
      have hw : wide (.tup [.int ((0 + j : Nat) : Int), row]) = (rng 0 (xs.length : Int).toNat).map (fun e => .tup [.int ((0 + j : Nat) : Int), e]) := by
        show List.map _ (List.range (rowLen row)) = _
        rw [hrl]
        unfold rng
        rw [Int.toNat_natCast, List.map_map]
        congr 1
        funext v
        show D.tup [_, D.int (v : Int)] = D.tup [_, D.int (0 + (v : Int))]
        rw [Int.zero_add]
      rw [hw] at hz hk
      rw [List.length_map] at hz
      refine ⟨_, rfl, rfl, _, _, rfl, _, _, rfl, rfl, ?_⟩
      refine ⟨row, rfl, xs, (by rcases hxs with rfl | rfl; exact .inl rfl; exact .inr rfl), _, rfl, by omega, by omega, lcIn_map (fun e => .tup [.int ((0 + j : Nat) : Int), e]) _ _ (fun e2 he2 R hR => ?_) hz hk⟩
      exact ⟨_, rfl, e2, rfl, (by show 2 ≤ sizeLine; decide), hR⟩
    · have h1 := spots_len rows 0 fun d hd => (hb d hd).len
      rw [List.nil_append, spots_eq rows 0 hb, List.length_nil, List.length_map]
      omega
    · rw [List.nil_append, List.nil_append, spots_eq rows 0 hb]
      exact ⟨_, _, rfl, .inl rfl, q⟩
end
def unI : D → Int | .int i => i | _ => 0
def ltG : D → Bool | .tup [.int a, .int b] => decide (a < b) | .tup [.tup a, .tup b] => HT.lexLt (a.map unI) (b.map unI) | _ => false
/-- each one before the next -/
def ascG (es : List D) : Bool := (pairs es (Pd.cutD es (some 1) none)).all ltG
theorem unI_map (xs : List Int) : (dI xs).map unI = xs := by
  show List.map _ (List.map _ _) = _
  rw [List.map_map]
  show List.map id xs = xs
  rw [List.map_id]
theorem pairs_in : ∀ (xs ys : List D) (d : D), d ∈ pairs xs ys → ∃ a b, a ∈ xs ∧ b ∈ ys ∧ d = .tup [a, b]
  | x :: xs, y :: ys, d, h => by
    rcases List.mem_cons.mp h with rfl | h
    · exact ⟨x, y, List.mem_cons_self, List.mem_cons_self, rfl⟩
    · obtain ⟨a, b, h1, h2, h3⟩ := pairs_in xs ys d h
      exact ⟨a, b, List.mem_cons_of_mem _ h1, List.mem_cons_of_mem _ h2, h3⟩
  | [], ys, d, h => by cases ys <;> cases h
  | _ :: _, [], d, h => by cases h
theorem cutD_in {xs : List D} {l u : Option Int} {d : D} (h : d ∈ Pd.cutD xs l u) : d ∈ xs := List.mem_of_mem_drop (List.mem_of_mem_take h)
theorem drop1 (xs : List D) : Pd.cutD xs (some 1) none = xs.drop 1 := by
  cases xs with
  | nil => rfl
  | cons x xs =>
    unfold Pd.cutD
    have e1 : HT.sIx (x :: xs).length 0 (some 1) = 1 := by
      unfold HT.sIx
      simp
      try omega
    have e2 : HT.sIx (x :: xs).length (x :: xs).length none = (x :: xs).length := rfl
    rw [e1, e2]
    show xs.take _ = xs
    exact List.take_of_length_le (by simp)
theorem ascG_of {es : List D} (h : es.Pairwise fun a b => ltG (.tup [a, b]) = true) : ascG es = true := by
  unfold ascG
  rw [drop1]
  induction es with
  | nil => rfl
  | cons a es ih =>
    cases es with
    | nil => rfl
    | cons b es =>
      obtain ⟨h1, h2⟩ := List.pairwise_cons.mp h
      have ih := ih h2
      show (ltG (.tup [a, b]) && ((pairs (b :: es) es).all ltG)) = true
      rw [h1 b List.mem_cons_self]
      exact ih
/-- one spot before another -/
def spLt (x y : List Int) : Prop := ∃ i j k l : Int, x = [i, j] ∧ y = [k, l] ∧ (i < k ∨ i = k ∧ j < l)
theorem ltT {x y : List Int} (h : spLt x y) : ltG (.tup [tI x, tI y]) = true := by
  obtain ⟨i, j, k, l, rfl, rfl, h⟩ := h
  show HT.lexLt ((dI [i, j]).map unI) ((dI [k, l]).map unI) = true
  rw [unI_map, unI_map]
  rw [HT.lexLt_cons]
  rcases h with h | ⟨rfl, h⟩
  · rw [if_neg (by omega)]; exact decide_eq_true h
  · rw [if_pos rfl, HT.lexLt_cons, if_neg (by omega)]; exact decide_eq_true h
theorem asc_spots {sp : List (List Int)} (h : sp.Pairwise spLt) : ascG (sp.map tI) = true := ascG_of (by
  rw [List.pairwise_map]
  exact h.imp fun h => ltT h)
theorem spotsFrom_mem : ∀ (rows : List D) (i : Nat) (x : List Int), x ∈ spotsFrom i rows → ∃ k j : Nat, x = [(k : Int), (j : Int)] ∧ i ≤ k ∧ ∃ d, rows[k - i]? = some d ∧ j < rowLen d
  | [], i, x, h => nomatch h
  | d :: r, i, x, h => by
    rcases List.mem_append.mp h with h | h
    · obtain ⟨j, hj, rfl⟩ := List.mem_map.mp h
      exact ⟨i, j, rfl, Nat.le_refl _, d, by rw [Nat.sub_self]; rfl, List.mem_range.mp hj⟩
    · obtain ⟨k, j, rfl, hk, e, he, hj⟩ := spotsFrom_mem r (i + 1) x h
      exact ⟨k, j, rfl, by omega, e, by rw [show k - i = (k - (i + 1)) + 1 by omega]; exact he, hj⟩
theorem spotsFrom_asc : ∀ (rows : List D) (i : Nat), (spotsFrom i rows).Pairwise spLt
  | [], _ => List.Pairwise.nil
  | d :: r, i => by
    refine List.pairwise_append.mpr ⟨?_, spotsFrom_asc r (i + 1), fun x hx y hy => ?_⟩
    · rw [List.pairwise_map]
      exact List.pairwise_lt_range.imp fun h => ⟨_, _, _, _, rfl, rfl, .inr ⟨rfl, by omega⟩⟩
    · obtain ⟨j, _, rfl⟩ := List.mem_map.mp hx
      obtain ⟨k, l, rfl, hk, _⟩ := spotsFrom_mem r (i + 1) y hy
      exact ⟨_, _, _, _, rfl, rfl, .inl (by omega)⟩
theorem dep_tI (x : List Int) : (toP (tI x)).depth ≤ 60 := by
  show PyData.depthAll (toPA (dI x)) + 1 ≤ 60
  rw [depth_ints]; decide
section
variable {P : Program} {w : World} {K : PySem.W.Frag} {mg : Str → Option Value} {base : Heap}
def W_is_ascending : DC := fun ds M Q => ∃ d es, ds = [d] ∧ isSeq d es ∧ es.length ≤ 1000 ∧ ((∃ ns, es = dI ns) ∨ ∃ sp : List (List Int), es = sp.map tI) ∧ Q (.bl (ascG es)) M
theorem ok_is_ascending (T : Tx P w K mg) : FnOk P w K mg base CX0 1 T.a_is_ascending T.f_is_ascending ["items"] (spD 1 W_is_ascending K) := by
  refine pd_fn T.F_is_ascending sc_is_ascending (fun cdv A outer s H E hr => ⟨_, (pdss_one (pds_ret (pd_callB (cr_all rfl) sc_all (by rfl) T.n_all (by decide +kernel) (pda_cons (pd_lc [("one", 1), ("other", 2)] rfl sc_is_ascending.nd (pdi_zip (by rfl) T.n_zip (pda_cons (pd_name 0) (pda_cons (pd_slS (pd_name 0) (pdo_some pd_int) pdo_no) pda_nil))) (blkOk_by (N := ["items", "one", "other"]) (sc := defScope s_is_ascending) (by decide +kernel)) (fun _ _ _ _ _ => (pdg_tup (n := 2) rfl (pdgs_cons (pdg_name 1 sc_is_ascending.nd) (pdgs_cons (pdg_name 2 sc_is_ascending.nd) pdgs_nil)))) (fun _ _ _ _ _ => pdts_nil) (fun _ _ _ _ _ => (pd_cmp (op_or2 op_lt (op_ltT (Nat.lt_of_le_of_lt (Nat.le_add_right _ 64) hr.units))) (sr_or2 sr_I0b sr_ltT) (pd_name 1) (pd_name 2) (nomark _)))) pda_nil)))), fun ds M Q hl h => ?_⟩)
  obtain ⟨d, es, rfl, hd, hz, hk, q⟩ := h
  have hsl : sizeLine = 16777216 := by decide
  have hlike : isSeq (likeD d (Pd.cutD es (some 1) none)) (Pd.cutD es (some 1) none) := by
    rcases hd with rfl | rfl
    · exact .inl rfl
    · exact .inr rfl
  have hlen : (pairs es (Pd.cutD es (some 1) none)).length ≤ es.length := by
    rw [Pd.pairs_len]
    exact Nat.min_le_left _ _
  refine ⟨d, rfl, d, rfl, es, hd, 1, rfl, d, _, _, _, rfl, hd, hlike, lc_map (fun e => .bl (ltG e)) _ _ (fun e he R hR => ?_) (by rw [List.length_nil]; omega) ?_⟩
  · obtain ⟨a, b, ha, hb, rfl⟩ := pairs_in _ _ _ he
    have hb := cutD_in hb
    rcases hk with ⟨ns, rfl⟩ | ⟨sp, rfl⟩
    · obtain ⟨xa, _, rfl⟩ := List.mem_map.mp ha
      obtain ⟨xb, _, rfl⟩ := List.mem_map.mp hb
      exact ⟨_, rfl, rfl, _, _, rfl, _, _, rfl, rfl, _, rfl, _, rfl, .inl ⟨xa, xb, rfl, rfl, hR⟩⟩
    · obtain ⟨xa, _, rfl⟩ := List.mem_map.mp ha
      obtain ⟨xb, _, rfl⟩ := List.mem_map.mp hb
      refine ⟨_, rfl, rfl, _, _, rfl, _, _, rfl, rfl, _, rfl, _, rfl, .inr ⟨xa, xb, rfl, rfl, ?_⟩⟩
      have e : ltG (.tup [tI xa, tI xb]) = HT.lexLt xa xb := by
        show HT.lexLt ((dI xa).map unI) ((dI xb).map unI) = _
        rw [unI_map, unI_map]
      rw [← e]
      exact hR
  · refine ⟨(pairs es (Pd.cutD es (some 1) none)).map ltG, ?_, ?_⟩
    · rw [List.nil_append, List.map_map]
      rfl
    · rw [List.all_map]
      exact q
def W_is_spot : DC := fun ds M Q => ∃ (i j : Int) (e : D) (sp : List (List Int)), ds = [tI [i, j], e] ∧ isSeq e (sp.map tI) ∧ Q (.bl (sp.contains [i, j])) M
theorem okD_seqT {e : D} {sp : List (List Int)} (h : isSeq e (sp.map tI)) : okD e = true := by rcases h with rfl | rfl <;> exact okD_tuples sp
theorem ok_is_spot (T : Tx P w K mg) : FnOk P w K mg base CX0 2 T.a_is_spot T.f_is_spot ["value", "spots"] (spD 2 W_is_spot K) := by
  refine pd_fn T.F_is_spot sc_is_spot (fun cdv A outer s H E hr => ⟨_, (pdss_cons (pds_if (pdt_w (pdw_or (pdt_not (pdt_val (pd_callB call_isi sc_isi (by rfl) T.n_isinstance (by decide +kernel) (pda_cons (pd_name 0) (pda_cons (pd_bltn (v := .ty "tuple") (d := .ty "tuple") (by rfl) T.n_tuple (by decide +kernel) rfl (fun _ _ => .ty _)) pda_nil))))) (pdw_or1 (pdt_cmp (op_neD hr.units) sr_ne (pd_callB call_len_seq sc_len (by rfl) T.n_len (by decide +kernel) (pda_cons (pd_name 0) pda_nil)) pd_int (nomark _))))) (pdss_one (pds_ret pd_bl)) pdss_nil)
      (pdss_one (pds_ret (pd_and (pd_call (ok_is_integer T) (hr.mono (by decide)) (by rfl) T.g_is_integer T.F_is_integer.kp T.b_is_integer (pda_cons (pd_ix ix_tup sr_ixT (pd_name 0) pd_int) pda_nil)) (pd_and (pd_call (ok_is_integer T) (hr.mono (by decide)) (by rfl) T.g_is_integer T.F_is_integer.kp T.b_is_integer (pda_cons (pd_ix ix_tup sr_ixT (pd_name 0) pd_int) pda_nil)) (pd_one (pd_cmp (op_inS' hr.units) sr_inS (pd_name 0) (pd_name 1) (by rfl)))))))), fun ds M Q hl h => ?_⟩)
  obtain ⟨i, j, e, sp, rfl, he, q⟩ := h
  refine ⟨_, rfl, _, _, _, _, _, true, rfl, .tup _, .ty "tuple", kit_ty (by decide +kernel), true, rfl, ?_⟩
  refine ⟨_, rfl, _, .inr rfl, rfl, rfl, false, rfl, ?_⟩
  refine ⟨_, rfl, dI [i, j], 0, .int i, rfl, rfl, ⟨by decide, rfl⟩, rfl, .int i, "int", rfl, rfl, true, rfl, ?_⟩
  refine ⟨_, rfl, dI [i, j], 1, .int j, rfl, rfl, ⟨by decide, rfl⟩, rfl, .int j, "int", rfl, rfl, true, rfl, ?_⟩
  refine ⟨_, rfl, e, rfl, sp.map tI, he, okD_tup [i, j], okD_seqT he, dep_tI [i, j], ?_⟩
  rw [show ((sp.map tI).any fun z => eqD z (tI [i, j])) = sp.contains [i, j] from any_row _ _]
  exact q
def W_are_spots : DC := fun ds M Q => ∃ (d e : D) (cs sp : List (List Int)), ds = [d, e] ∧ isSeq d (cs.map tI) ∧ isSeq e (sp.map tI) ∧ sp.length ≤ 1000 ∧ cs.length ≤ sp.length ∧ (∀ x ∈ cs, x ∈ sp ∧ ∃ i j : Int, x = [i, j]) ∧ cs.Pairwise spLt ∧ Q (.bl true) M
theorem ok_are_spots (T : Tx P w K mg) : FnOk P w K mg base CX0 3 T.a_are_spots T.f_are_spots ["value", "spots"] (spD 2 W_are_spots K) := by
  refine pd_fn T.F_are_spots sc_are_spots (fun cdv A outer s H E hr => ⟨_, (pdss_cons (pds_if (pdt_not (pdt_val (pd_call (ok_has_items T) (hr.mono (by decide)) (by rfl) T.g_has_items T.F_has_items.kp T.b_has_items (pda_cons (pd_name 0) (pda_cons pd_int (pda_cons (pd_callB call_len_seq sc_len (by rfl) T.n_len (by decide +kernel) (pda_cons (pd_name 1) pda_nil)) pda_nil)))))) (pdss_one (pds_ret pd_bl)) pdss_nil)
      (pdss_one (pds_ret (pd_and (pd_callB (cr_all rfl) sc_all (by rfl) T.n_all (by decide +kernel) (pda_cons (pd_lc [("item", 2)] rfl sc_are_spots.nd (pdi_seq (pd_name 0)) (blkOk_by (N := ["value", "spots", "item"]) (sc := defScope s_are_spots) (by decide +kernel)) (fun _ _ _ _ _ => (pdg_name 2 sc_are_spots.nd)) (fun _ _ _ _ _ => pdts_nil) (fun _ _ _ _ _ => (pd_call (ok_is_spot T) (hr.mono (by decide)) (by rfl) T.g_is_spot T.F_is_spot.kp T.b_is_spot (pda_cons (pd_name 2) (pda_cons (pd_name 1) pda_nil))))) pda_nil)) (pd_one (pd_call (ok_is_ascending T) (hr.mono (by decide)) (by rfl) T.g_is_ascending T.F_is_ascending.kp T.b_is_ascending (pda_cons (pd_name 0) pda_nil))))))), fun ds M Q hl h => ?_⟩)
  obtain ⟨d, e, cs, sp, rfl, hd, he, h1, h0, h2, h3, q⟩ := h
  have hsl : sizeLine = 16777216 := by decide
  refine ⟨d, rfl, e, rfl, sp.map tI, (by rcases he with rfl | rfl; exact .inl rfl; exact .inr rfl), rfl, d, _, 0, _, rfl, hd, true, by rw [List.length_map, List.length_map, decide_eq_true (by omega), decide_eq_true (by omega)]; rfl, ?_⟩
  refine ⟨d, rfl, _, hd, lc_map (fun _ => .bl true) _ _ (fun y hy R hR => ?_) (by rw [List.length_nil, List.length_map]; omega) ?_⟩
  · obtain ⟨x, hx, rfl⟩ := List.mem_map.mp hy
    obtain ⟨hin, i, j, rfl⟩ := h2 x hx
    exact ⟨_, rfl, e, rfl, rfl, i, j, e, sp, rfl, he, by rw [List.contains_iff_mem.mpr hin]; exact hR⟩
  · refine ⟨(cs.map tI).map fun _ => true, by rw [List.nil_append, List.map_map, List.map_map, List.map_map]; rfl, true, ?_, ?_⟩
    · have e : (((cs.map tI).map fun _ => true).all id) = true := by rw [List.all_map]; exact List.all_eq_true.mpr fun _ _ => rfl
      rw [e]
    exact ⟨d, rfl, rfl, d, _, rfl, hd, by rw [List.length_map]; omega, .inr ⟨cs, rfl⟩, by rw [asc_spots h3]; exact q⟩
end
end K11
set_option Elab.async false
set_option linter.all false
set_option maxRecDepth 100000
set_option maxHeartbeats 4000000
namespace K11
open PySem PySem.Spec PyProof.Rows L2 Pd Spc
def tP (ps : List (List Int)) : D := .tup (ps.map tI)
structure RwOk (p : Int) (n : Nat) (rows : List (List (List Int))) : Prop where
  l1 : 1 ≤ rows.length
  l6 : rows.length ≤ 6
  ps : ∀ ps ∈ rows, 1 ≤ ps.length ∧ ps.length ≤ 3 ∧ ∀ fs ∈ ps, fs ∈ allD p n
  all : (rows.map List.length).sum ≤ 10
def tsp (rows : List (List (List Int))) : List (List Int) := spotsFrom 0 (rows.map tP)
theorem rowLen_tP (ps : List (List Int)) : rowLen (tP ps) = ps.length := by show (ps.map tI).length = _; rw [List.length_map]
theorem spots_flat : ∀ (rows : List (List (List Int))) (i : Nat), (spotsFrom i (rows.map tP)).length = rows.flatten.length
  | [], _ => rfl
  | ps :: r, i => by
    show (((List.range (rowLen (tP ps))).map _) ++ spotsFrom (i + 1) (r.map tP)).length = _
    rw [List.length_append, spots_flat r (i + 1), List.length_map, List.length_range, rowLen_tP, List.flatten_cons, List.length_append]
theorem flat_len {p : Int} {n : Nat} {rows : List (List (List Int))} (h : RwOk p n rows) : rows.flatten.length ≤ 10 := by
  rw [List.length_flatten]; exact h.all
theorem flat_mem {p : Int} {n : Nat} {rows : List (List (List Int))} (h : RwOk p n rows) : ∀ fs ∈ rows.flatten, fs ∈ allD p n := fun fs hf => by
  obtain ⟨ps, h1, h2⟩ := List.mem_flatten.mp hf
  exact (h.ps ps h1).2.2 fs h2
/-- the part that stands at a spot -/
def partAt (rows : List (List (List Int))) (i j : Nat) : List Int := (rows.getD i []).getD j []
theorem spots_parts : ∀ (rows : List (List (List Int))) (i : Nat), (spotsFrom i (rows.map tP)).map (fun x => match x with | [a, b] => partAt rows (a.toNat - i) b.toNat | _ => []) = rows.flatten
  | [], _ => rfl
  | ps :: r, i => by
    have ih := spots_parts r (i + 1)
    show (((List.range (rowLen (tP ps))).map fun (j : Nat) => [(i : Int), (j : Int)]) ++ spotsFrom (i + 1) (r.map tP)).map _ = ps ++ r.flatten
    rw [List.map_append, List.map_map, rowLen_tP, ← ih]
    congr 1
    · refine List.ext_getElem (by rw [List.length_map, List.length_range]) fun k h1 h2 => ?_
      rw [List.getElem_map, List.getElem_range]
      show partAt (ps :: r) ((i : Int).toNat - i) (k : Int).toNat = ps[k]
      rw [show (i : Int).toNat - i = 0 by omega, Int.toNat_natCast]
      show (ps.getD k []) = _
      rw [List.getD_eq_getElem?_getD, List.getElem?_eq_getElem h2]; rfl
    · refine List.map_congr_left fun x hx => ?_
      obtain ⟨k, j, rfl, hk, _⟩ := spotsFrom_mem _ _ x hx
      show partAt (ps :: r) ((k : Int).toNat - i) (j : Int).toNat = partAt r ((k : Int).toNat - (i + 1)) (j : Int).toNat
      rw [show (k : Int).toNat - i = ((k : Int).toNat - (i + 1)) + 1 by omega]
      rfl
theorem spLt_ne {x y : List Int} (h : spLt x y) : x ≠ y := by
  obtain ⟨i, j, k, l, rfl, rfl, h⟩ := h
  intro e
  injection e with e1 e2
  injection e2 with e2 _
  omega
theorem sp_nodup (rows : List D) (i : Nat) : (spotsFrom i rows).Nodup := (spotsFrom_asc rows i).imp spLt_ne
theorem kI_inj {x y : List Int} (h : kI x = kI y) : x = y := by
  unfold kI at h
  have := congrArg (List.map fun k : Key => match k with | .inl i => i | .inr _ => 0) h
  rw [List.map_map, List.map_map] at this
  simpa [Function.comp_def] using this
theorem zip_get : ∀ (sp : List (List Int)) (vals : List D), sp.Nodup → sp.length = vals.length → sp.map (fun x => ditGet (sp.map kI) vals x) = vals.map some
  | [], [], _, _ => rfl
  | [], _ :: _, _, h => by cases h
  | _ :: _, [], _, h => by cases h
  | x :: sp, v :: vals, hn, hl => by
    obtain ⟨h1, h2⟩ := List.nodup_cons.mp hn
    have ih := zip_get sp vals h2 (by simpa using hl)
    have e0 : ditGet ((x :: sp).map kI) (v :: vals) x = some v := by
      unfold ditGet
      rw [List.map_cons, List.zip_cons_cons, List.find?_cons_of_pos (by simp)]; rfl
    show ditGet ((x :: sp).map kI) (v :: vals) x :: sp.map (fun y => ditGet ((x :: sp).map kI) (v :: vals) y) = some v :: vals.map some
    rw [e0, ← ih]
    congr 1
    refine List.map_congr_left fun y hy => ?_
    unfold ditGet
    rw [List.map_cons, List.zip_cons_cons, List.find?_cons_of_neg]
    simp only [decide_eq_true_eq]
    exact fun e => h1 (by rw [kI_inj e]; exact hy)
end K11
set_option Elab.async false
set_option linter.all false
set_option maxRecDepth 100000
set_option maxHeartbeats 4000000
namespace K11
open PySem PySem.Spec PyProof.Rows L2 Pd Spc
def lt : D → D | .lst xs => .tup xs | d => d
theorem lt_tP {e : D} {ps : List (List Int)} (h : lt e = tP ps) : isSeq e (ps.map tI) := by
  cases e with
  | lst xs => injection h with h; exact .inl (by rw [h])
  | tup xs => injection h with h; exact .inr (by rw [h])
  | _ => cases h
def lenO : D → Option D | .lst xs => some (.int xs.length) | .tup xs => some (.int xs.length) | _ => none
theorem lt_at {es : List D} {rows : List (List (List Int))} (h : es.map lt = rows.map tP) {k : Nat} (hk : k < rows.length) : ∃ hk2 : k < es.length, isSeq es[k] (rows[k].map tI) := by
  have hl : es.length = rows.length := by have := congrArg List.length h; rwa [List.length_map, List.length_map] at this
  refine ⟨by omega, lt_tP ?_⟩
  have := congrArg (fun l => l[k]?) h
  simp only [List.getElem?_map] at this
  rw [List.getElem?_eq_getElem (by omega : k < es.length), List.getElem?_eq_getElem hk] at this
  exact Option.some.inj this
theorem lt_mem {es : List D} {rows : List (List (List Int))} (h : es.map lt = rows.map tP) {e : D} (he : e ∈ es) : ∃ ps ∈ rows, isSeq e (ps.map tI) := by
  have : lt e ∈ rows.map tP := by rw [← h]; exact List.mem_map_of_mem he
  obtain ⟨ps, hp, e2⟩ := List.mem_map.mp this
  exact ⟨ps, hp, lt_tP e2.symm⟩
theorem lenO_eq : ∀ (rows : List (List (List Int))) (es : List D), es.map lt = rows.map tP → es.filterMap lenO = (rows.map fun ps => (ps.length : Int)).map D.int
  | [], [], _ => rfl
  | [], _ :: _, h => by cases h
  | _ :: _, [], h => by cases h
  | ps :: r, e :: es, h => by
    rw [List.map_cons, List.map_cons] at h
    injection h with h1 h2
    have hs := lt_tP h1
    have e1 : lenO e = some (.int ((ps.map tI).length : Nat)) := by rcases hs with rfl | rfl <;> rfl
    rw [List.filterMap_cons_some e1, lenO_eq r es h2, List.length_map]; rfl
theorem sum_cast : ∀ rows : List (List (List Int)), (rows.map fun ps => (ps.length : Int)).sum = (((rows.map List.length).sum : Nat) : Int)
  | [] => rfl
  | ps :: r => by
    rw [List.map_cons, List.sum_cons, sum_cast r, List.map_cons, List.sum_cons]; omega
section
variable {P : Program} {w : World} {K : PySem.W.Frag} {mg : Str → Option Value} {base : Heap}
def W_exp : DC := fun ds M Q => ∃ (p : Int) (n : Nat) (d : D) (es : List D) (rows : List (List (List Int))), ds = [.int p, .int n, d] ∧ isSeq d es ∧ es.map lt = rows.map tP ∧ n ≤ 6 ∧ RwOk p n rows ∧ Q .non M
theorem ok_expect_pieces (T : Tx P w K mg) : FnOk P w K mg base CX0 4 T.a_expect_pieces T.f_expect_pieces ["prime", "size", "pieces"] (spD 3 W_exp K) := by
  refine pd_fn T.F_expect_pieces sc_expect_pieces (fun cdv A outer s H E hr => ⟨_, (pdss_cons (pds_if (pdt_not (pdt_val (pd_call (ok_has_items T) (hr.mono (by decide)) (by rfl) T.g_has_items T.F_has_items.kp T.b_has_items (pda_cons (pd_name 2) (pda_cons pd_int (pda_cons (pd_glob (v := .int 6) (d := .int 6) (by rfl) T.g_MOST_PIECES ⟨_, rfl⟩ (fun _ _ => .int _)) pda_nil)))))) (pdss_one pds_never) pdss_nil)
      (pdss_cons (pds_if (pdt_cmp op_gt sr_I0b (pd_callB (cr_sum rfl) sc_sum (by rfl) T.n_sum (by decide +kernel) (pda_cons (pd_lc [("parts", 4)] rfl sc_expect_pieces.nd (pdi_seq (pd_name 2)) (blkOk_by (N := ["prime", "size", "pieces", "piece", "parts", "part", "factors"]) (sc := defScope s_expect_pieces) (by decide +kernel)) (fun _ _ _ _ _ => (pdg_name 4 sc_expect_pieces.nd)) (fun _ _ _ _ _ => pdts_one (pdt_val (pd_isi2K (K := K) rfl (T1 := "list") (T2 := "tuple") (by rfl) T.n_isinstance (pd_name 4) (by rfl) T.n_list (by decide +kernel) (by rfl) T.n_tuple (by decide +kernel)))) (fun _ _ _ _ _ => (pd_callB call_len_seq sc_len (by rfl) T.n_len (by decide +kernel) (pda_cons (pd_name 4) pda_nil)))) pda_nil)) (pd_glob (v := .int 10) (d := .int 10) (by rfl) T.g_MOST_PARTS_IN_ALL ⟨_, rfl⟩ (fun _ _ => .int _)) (nomark _)) (pdss_one pds_never) pdss_nil)
      (pdss_one (pds_for PassesOwn.never rfl (pdi_enumK (by rfl) T.n_enumerate (pda_cons (pd_name 2) pda_nil)) (pdg_tup (n := 2) rfl (pdgs_cons (pdg_name 3 sc_expect_pieces.nd) (pdgs_cons (pdg_name 4 sc_expect_pieces.nd) pdgs_nil))) (pdss_cons (pds_if (pdt_not (pdt_val (pd_call (ok_has_items T) (hr.mono (by decide)) (by rfl) T.g_has_items T.F_has_items.kp T.b_has_items (pda_cons (pd_name 4) (pda_cons pd_int (pda_cons (pd_glob (v := .int 3) (d := .int 3) (by rfl) T.g_MOST_PARTS ⟨_, rfl⟩ (fun _ _ => .int _)) pda_nil)))))) (pdss_one pds_never) pdss_nil)
      (pdss_one (pds_for PassesOwn.never rfl (pdi_enumK (by rfl) T.n_enumerate (pda_cons (pd_name 4) pda_nil)) (pdg_tup (n := 2) rfl (pdgs_cons (pdg_name 5 sc_expect_pieces.nd) (pdgs_cons (pdg_name 6 sc_expect_pieces.nd) pdgs_nil))) (pdss_one (pds_if (pdt_w (pdw_or (pdt_not (pdt_val (pd_call (ok_has_items T) (hr.mono (by decide)) (by rfl) T.g_has_items T.F_has_items.kp T.b_has_items (pda_cons (pd_name 6) (pda_cons (pd_name 1) (pda_cons (pd_name 1) pda_nil)))))) (pdw_or1 (pdt_not (pdt_val (pd_call (ok_all_between T) (hr.mono (by decide)) (by rfl) T.g_all_between T.F_all_between.kp T.b_all_between (pda_cons (pd_name 6) (pda_cons pd_int (pda_cons (pd_op op_sub sr_I0i (pd_name 0) pd_int) pda_nil))))))))) (pdss_one pds_never) pdss_nil))))))))), fun ds M Q hl h => ?_⟩)
  obtain ⟨p, n, d0, es, rows, rfl, hd0, hes, hn6, hw, q⟩ := h
  have hel : es.length = rows.length := by have := congrArg List.length hes; rwa [List.length_map, List.length_map] at this
  have hsl : sizeLine = 16777216 := by decide
  have h1 := hw.l1
  have h6 := hw.l6
  have h10 := hw.all
  refine ⟨_, rfl, rfl, d0, es, 1, 6, rfl, hd0, true, by rw [decide_eq_true (by omega), decide_eq_true (by omega)]; rfl, ?_⟩
  refine ⟨_, rfl, es, hd0, lc_fmap lenO _ _ (fun e he R S hR hS => ?_) (by rw [List.length_nil]; omega) ?_⟩
  · obtain ⟨ps, _, hs⟩ := lt_mem hes he
    rcases hs with rfl | rfl
    · exact ⟨_, rfl, .type "list", true, .lst _, rfl, true, rfl, _, rfl, _, .inl rfl, hR _ rfl⟩
    · exact ⟨_, rfl, .type "tuple", true, .tup _, rfl, true, rfl, _, rfl, _, .inr rfl, hR _ rfl⟩
  rw [List.nil_append, lenO_eq rows es hes]
  refine ⟨_, rfl, _, _, rfl, rfl, false, by rw [sum_cast]; exact congrArg D.bl (decide_eq_false (by omega)), ?_⟩
  refine ⟨_, rfl, _, es, rfl, hd0, for_ind (fun k ρ M' => M' = M ∧ ∃ a b c e, ρ = [some (.int p), some (.int n), some d0, a, b, c, e]) _ ?_ ?_ ⟨rfl, _, _, _, _, rfl⟩⟩
  · rintro k d ρ M' N hd ⟨rfl, a, b, c, e, rfl⟩ hN
    have hkl : k < rows.length := by have := (List.getElem?_eq_some_iff.mp hd).1; rw [numd_len] at this; omega
    obtain ⟨hke, hse⟩ := lt_at hes hkl
    have hx := numd_get es 0 k _ (List.getElem?_eq_getElem hke)
    rw [hx] at hd
    cases hd
    have hin := List.getElem_mem hkl
    generalize es[k] = ek at hse
    obtain ⟨p1, p3, pf⟩ := hw.ps _ hin
    generalize rows[k] = ps at p1 p3 pf hin hse
    refine ⟨_, rfl, rfl, _, _, rfl, _, _, rfl, rfl, ?_⟩
    refine ⟨_, rfl, rfl, ek, ps.map tI, 1, 3, rfl, hse, true, by rw [List.length_map, decide_eq_true (by omega), decide_eq_true (by omega)]; rfl, ?_⟩
    refine ⟨_, rfl, _, _, rfl, hse, for_ind (fun k2 ρ M2 => M2 = M' ∧ ∃ c e, ρ = [some (.int p), some (.int n), some d0, some (.int ((0 + k : Nat) : Int)), some ek, c, e]) _ ?_ ?_ ⟨rfl, _, _, rfl⟩⟩
    · rintro k2 d ρ M2 N2 hd ⟨rfl, c, e, rfl⟩ hN2
      have hkl2 : k2 < ps.length := by have := (List.getElem?_eq_some_iff.mp hd).1; rwa [numd_len, List.length_map] at this
      have hx := numd_get (ps.map tI) 0 k2 _ (List.getElem?_eq_getElem (by rw [List.length_map]; exact hkl2))
      rw [hx, List.getElem_map] at hd
      cases hd
      obtain ⟨y1, y2⟩ := allD_mem (pf _ (List.getElem_mem hkl2))
      refine ⟨_, rfl, rfl, _, _, rfl, _, _, rfl, rfl, ?_⟩
      refine ⟨_, rfl, .int n, rfl, .int n, rfl, rfl, tI ps[k2], dI ps[k2], n, n, rfl, .inr rfl, true, by rw [List.length_map, y1, decide_eq_true (Int.le_refl _)]; rfl, ?_⟩
      exact ⟨_, rfl, .int p, rfl, p, 1, rfl, rfl, rfl, tI ps[k2], ps[k2], 0, p - 1, rfl, .inr rfl, by omega, true, by rw [In.all y2], hN2 _ _ ⟨rfl, _, _, rfl⟩⟩
    · rintro ρ M2 ⟨rfl, c, e, rfl⟩
      exact hN _ _ ⟨rfl, _, _, _, _, rfl⟩
  · rintro ρ M' ⟨rfl, a, b, c, e, rfl⟩
    exact q
end
end K11
set_option Elab.async false
set_option linter.all false
set_option maxRecDepth 100000
set_option maxHeartbeats 4000000
namespace K11
open PySem PySem.Spec PyProof.Rows L2 Pd Spc
def intsOf : D → List Int | .tup ds => ds.map unI | _ => []
theorem ints_tI (xs : List Int) : intsOf (tI xs) = xs := unI_map xs
theorem tsp_len {p : Int} {n : Nat} {rows : List (List (List Int))} (h : RwOk p n rows) : (tsp rows).length ≤ 10 := by
  unfold tsp; rw [spots_flat]; exact flat_len h
theorem tsp_two (rows : List (List (List Int))) : ∀ x ∈ tsp rows, ∃ i j : Int, x = [i, j] := fun x hx => by
  obtain ⟨k, j, rfl, _, _⟩ := spotsFrom_mem _ _ x hx
  exact ⟨_, _, rfl⟩
def sums (S : Addr) (p : Int) (rows : List (List (List Int))) : List D := (rows.flatten.map tI).map (dSum S p)
theorem sums_len (S : Addr) (p : Int) (rows : List (List (List Int))) : (tsp rows).length = (sums S p rows).length := by
  unfold tsp sums; rw [spots_flat, List.length_map, List.length_map]
theorem sums_sp (S : Addr) (p : Int) (rows : List (List (List Int))) : sums S p rows = (tsp rows).map fun x => dSum S p (tI (match x with | [a, b] => partAt rows (a.toNat - 0) b.toNat | _ => [])) := by
  have h := spots_parts rows 0
  unfold sums tsp
  rw [← h, List.map_map, List.map_map]
  rfl
/-- the part at a place -/
def prt (rows : List (List (List Int))) (x : List Int) : List Int := match x with | [a, b] => partAt rows (a.toNat - 0) b.toNat | _ => []
theorem prt_all (rows : List (List (List Int))) : (tsp rows).map (prt rows) = rows.flatten := spots_parts rows 0
theorem sum_at (S : Addr) (p : Int) (rows : List (List (List Int))) {x : List Int} (hx : x ∈ tsp rows) : ditGet ((tsp rows).map kI) (sums S p rows) x = some (dSum S p (tI (prt rows x))) := by
  have h := zip_get (tsp rows) (sums S p rows) (sp_nodup _ _) (sums_len S p rows)
  rw [sums_sp S p rows, List.map_map] at h
  have h2 := List.map_inj_left.mp h x hx
  rw [← sums_sp S p rows] at h2
  exact h2
theorem prt_in {p : Int} {n : Nat} {rows : List (List (List Int))} (h : RwOk p n rows) {x : List Int} (hx : x ∈ tsp rows) : prt rows x ∈ allD p n := by
  refine flat_mem h _ ?_
  rw [← prt_all]
  exact List.mem_map_of_mem hx
/-- places of a table, ascending -/
structure Cs (rows : List (List (List Int))) (cs : List (List Int)) : Prop where
  inn : ∀ x ∈ cs, x ∈ tsp rows
  asc : cs.Pairwise spLt
  len : cs.length ≤ (tsp rows).length
theorem cs_all (rows : List (List (List Int))) : Cs rows (tsp rows) := ⟨fun _ h => h, spotsFrom_asc _ _, Nat.le_refl _⟩
section
variable {P : Program} {w : World} {K : PySem.W.Frag} {mg : Str → Option Value} {base : Heap}
def tblF (S : Addr) (p : Int) (n : Nat) (rows : List (List (List Int))) (fs : List (Str × D)) : Prop := fs.lookup ("_prime" : Str) = some (D.int p) ∧ fs.lookup ("_size" : Str) = some (D.int n) ∧
  fs.lookup ("_spots" : Str) = some (D.tup ((tsp rows).map tI)) ∧ fs.lookup ("_sums" : Str) = some (D.dit ((tsp rows).map kI) (sums S p rows))
def W_tsp (S C TC : Addr) : DC := fun ds M Q => ∃ (x e : D) (p : Int) (n : Nat) (SP : List (List Rw)) (rows : List (List (List Int))) (cs : List (List Int)) (fs : List (Str × D)), ds = [x, e] ∧ InsOf M x TC fs ∧ tblF S p n rows fs ∧
  okM M ∧ Univ p n SP ∧ RwOk p n rows ∧ Cs rows cs ∧ ((e = .non ∧ cs = tsp rows) ∨ isSeq e (cs.map tI)) ∧ Q (dSpace S C p n (red p (cs.map (prt rows)))) M
theorem ok_Table_space (T : Tx P w K mg) : FnOk P w K mg base CX0 8 T.a_Table_space T.f_Table_space ["self", "spots"] (spD 2 (W_tsp T.a_Sum T.a_Space T.a_Table) K) := by
  refine pd_fnD T.F_Table_space sc_Table_space (fun cdv A outer s H E hr => ⟨_, (pdss_cons (pds_if (pdt_cmp op_is0 sr_is0 (pd_name 1) pd_non (nomark _)) (pdss_one (pds_set 1 sc_Table_space.nd (pd_fldA (K := K) rfl (pd_name 0)))) pdss_nil)
      (pdss_cons (pds_if (pdt_not (pdt_val (pd_call (ok_are_spots T) (hr.mono (by decide)) (by rfl) T.g_are_spots T.F_are_spots.kp T.b_are_spots (pda_cons (pd_name 1) (pda_cons (pd_fldA (K := K) rfl (pd_name 0)) pda_nil))))) (pdss_one pds_never) pdss_nil)
      (pdss_one (pds_ret (pd_make T.m_Space (ok_Space_init T) (hr.mono (by decide)) (by rfl) T.g_Space T.b_Space_init (pda_cons (pd_fldA (K := K) rfl (pd_name 0)) (pda_cons (pd_fldA (K := K) rfl (pd_name 0)) (pda_cons (pd_lc [("spot", 2)] rfl sc_Table_space.nd (pdi_seq (pd_name 1)) (blkOk_by (N := ["self", "spots", "spot"]) (sc := defScope s_Table_space) (by decide +kernel)) (fun _ _ _ _ _ => (pdg_name 2 sc_Table_space.nd)) (fun _ _ _ _ _ => pdts_nil) (fun _ _ _ _ _ => (pd_getT (Nat.lt_of_le_of_lt (Nat.add_le_add_left (by decide : 1 ≤ 64) _) hr.units) (pd_fldA (K := K) rfl (pd_name 0)) (pd_name 2)))) pda_nil)))))))), fun ds M Q hl h => ?_⟩)
  obtain ⟨x, e, p, n, SP, rows, cs, fs, rfl, hx, ⟨f1, f2, f3, f4⟩, hM, U, hw, hcs, he, q⟩ := h
  have hsl : sizeLine = 16777216 := by decide
  have hl10 := tsp_len hw
  have hcl := hcs.len
  have hco : ∀ y ∈ cs, ∃ i j : Int, y = [i, j] := fun y hy => tsp_two rows y (hcs.inn y hy)
  have hcm : cs.map (fun y => dSum T.a_Sum p (tI (prt rows y))) = ((cs.map (prt rows)).map tI).map (dSum T.a_Sum p) := by rw [List.map_map, List.map_map]; rfl
  have fin : okM (M ++ [.ins T.a_Space []]) → ∀ acc, acc = cs.map (fun y => dSum T.a_Sum p (tI (prt rows y))) → ([.int p, .int n, .lst acc] : List D).length + 1 = 4 ∧ W_spinit T.a_Sum T.a_Space (.mu M.length :: [.int p, .int n, .lst acc]) (M ++ [.ins T.a_Space []]) fun d M2 => ∃ M3 fs, d = .non ∧ M2 = M3 ++ [.ins T.a_Space fs] ∧ M3.length = M.length ∧ apartF M.length fs = true ∧ apartM M.length M3 = true ∧ Q (.ins T.a_Space fs) M3 := fun ho acc ea => by
    rw [ea, hcm]
    refine make_space U (fsD := (cs.map (prt rows)).map tI) (rows := cs.map (prt rows)) ?_ ?_ (fun y hy => ?_) hM ho q
    · rw [List.map_map]; rfl
    · rw [List.length_map, List.length_map]; omega
    · obtain ⟨x, hx, rfl⟩ := List.mem_map.mp hy
      exact prt_in hw (hcs.inn x hx)
  have el : ∀ y ∈ cs, ditGet ((tsp rows).map kI) (sums T.a_Sum p rows) y = some (dSum T.a_Sum p (tI (prt rows y))) := fun y hy => sum_at _ _ _ (hcs.inn y hy)
  rcases he with ⟨rfl, rfl⟩ | he
  · refine ⟨_, rfl, rfl, true, rfl, _, rfl, _, _, _, hx, T.c_Table.cl, T.nb_spots, f3, ?_⟩
    refine ⟨_, rfl, _, rfl, _, _, _, hx, T.c_Table.cl, T.nb_spots, f3, rfl, _, _, tsp rows, tsp rows, rfl, .inr rfl, .inr rfl, by omega, Nat.le_refl _, fun x hx => ⟨hx, tsp_two rows x hx⟩, spotsFrom_asc _ _, true, rfl, ?_⟩
    refine ⟨_, rfl, _, _, _, hx, T.c_Table.cl, T.nb_prime, f1, _, rfl, _, _, _, hx, T.c_Table.cl, T.nb_size, f2, ?_⟩
    refine ⟨_, rfl, _, .inr rfl, lc_map (fun d => dSum T.a_Sum p (tI (prt rows (intsOf d)))) _ _ (fun d hd R hR => ?_) (by rw [List.length_nil, List.length_map]; omega) ?_⟩
    · obtain ⟨y, hy, rfl⟩ := List.mem_map.mp hd
      refine ⟨_, rfl, _, _, _, hx, T.c_Table.cl, T.nb_sums, f4, _, _, rfl, _, rfl, y, _, rfl, el y hy, ?_⟩
      have hR' : R (dSum T.a_Sum p (tI (prt rows (intsOf (tI y))))) M := hR
      rwa [ints_tI] at hR'
    · refine fin (okM_apI hM) _ ?_
      rw [List.nil_append, List.map_map]
      exact List.map_congr_left fun y _ => by show dSum T.a_Sum p (tI (prt rows (intsOf (tI y)))) = _; rw [ints_tI]
  · have hen : isNonD e = false := by rcases he with rfl | rfl <;> rfl
    refine ⟨e, rfl, rfl, false, by rw [hen], ?_⟩
    refine ⟨e, rfl, _, rfl, _, _, _, hx, T.c_Table.cl, T.nb_spots, f3, rfl, e, _, cs, tsp rows, rfl, he, .inr rfl, by omega, hcl, fun y hy => ⟨hcs.inn y hy, hco y hy⟩, hcs.asc, true, rfl, ?_⟩
    refine ⟨_, rfl, _, _, _, hx, T.c_Table.cl, T.nb_prime, f1, _, rfl, _, _, _, hx, T.c_Table.cl, T.nb_size, f2, ?_⟩
    refine ⟨e, rfl, _, he, lc_map (fun d => dSum T.a_Sum p (tI (prt rows (intsOf d)))) _ _ (fun d hd R hR => ?_) (by rw [List.length_nil, List.length_map]; omega) ?_⟩
    · obtain ⟨y, hy, rfl⟩ := List.mem_map.mp hd
      refine ⟨_, rfl, _, _, _, hx, T.c_Table.cl, T.nb_sums, f4, _, _, rfl, _, rfl, y, _, rfl, el y hy, ?_⟩
      have hR' : R (dSum T.a_Sum p (tI (prt rows (intsOf (tI y))))) M := hR
      rwa [ints_tI] at hR'
    · refine fin (okM_apI hM) _ ?_
      rw [List.nil_append, List.map_map]
      exact List.map_congr_left fun y _ => by show dSum T.a_Sum p (tI (prt rows (intsOf (tI y)))) = _; rw [ints_tI]
end
end K11
set_option Elab.async false
set_option linter.all false
set_option maxRecDepth 100000
set_option maxHeartbeats 4000000
namespace K11
open PySem PySem.Spec PyProof.Rows L2 Pd Spc
def tbF (S : Addr) (p : Int) (n : Nat) (rows : List (List (List Int))) : List (Str × D) := [("_prime", .int p), ("_size", .int n), ("_pieces", .tup (rows.map tP)), ("_spots", .tup ((tsp rows).map tI)), ("_sums", .dit ((tsp rows).map kI) (sums S p rows)), ("_whole", .bl (decide (((red p rows.flatten).length : Int) = n)))]
def dTab (S TC : Addr) (p : Int) (n : Nat) (rows : List (List (List Int))) : D := .ins TC (tbF S p n rows)
theorem ap_tI (k : Nat) : ∀ L : List (List Int), apartA k (L.map tI) = true
  | [] => rfl
  | x :: r => by show (apartA k (dI x) && apartA k (r.map tI)) = true; rw [apartA_ints, ap_tI k r]; rfl
theorem ap_tP (k : Nat) : ∀ rows : List (List (List Int)), apartA k (rows.map tP) = true
  | [] => rfl
  | x :: r => by show (apartA k (x.map tI) && apartA k (r.map tP)) = true; rw [ap_tI, ap_tP k r]; rfl
theorem ap_sum1 (S : Addr) (p : Int) (k : Nat) : ∀ L : List (List Int), apartA k ((L.map tI).map (dSum S p)) = true
  | [] => rfl
  | x :: r => by show ((true && (apartA k (dI x) && true)) && apartA k ((r.map tI).map (dSum S p))) = true; rw [apartA_ints, ap_sum1 S p k r]; rfl
theorem ap_tb (S : Addr) (p : Int) (n : Nat) (rows : List (List (List Int))) (k : Nat) : apartF k (tbF S p n rows) = true := by
  show (true && (true && (apartA k (rows.map tP) && (apartA k ((tsp rows).map tI) && (apartA k (sums S p rows) && (true && true)))))) = true
  rw [ap_tP, ap_tI, show apartA k (sums S p rows) = true from ap_sum1 S p k _]; rfl
theorem ap_tb4 (S : Addr) (p : Int) (n : Nat) (rows : List (List (List Int))) (k : Nat) : apartF k ((tbF S p n rows).take 4) = true := by
  show (true && (true && (apartA k (rows.map tP) && (apartA k ((tsp rows).map tI) && true)))) = true
  rw [ap_tP, ap_tI]; rfl
theorem ap_tb5 (S : Addr) (p : Int) (n : Nat) (rows : List (List (List Int))) (k : Nat) : apartF k ((tbF S p n rows).take 5) = true := by
  show (true && (true && (apartA k (rows.map tP) && (apartA k ((tsp rows).map tI) && (apartA k (sums S p rows) && true))))) = true
  rw [ap_tP, ap_tI, show apartA k (sums S p rows) = true from ap_sum1 S p k _]; rfl
theorem rowB_tP {p : Int} {n : Nat} {rows : List (List (List Int))} (h : RwOk p n rows) : ∀ x ∈ rows.map tP, rowB x := fun x hx => by
  obtain ⟨ps, hp, rfl⟩ := List.mem_map.mp hx
  exact .inr ⟨ps.map tI, .inr rfl, by rw [List.length_map]; exact (h.ps ps hp).2.1⟩
/-- the sum that is made at a spot -/
def sumAt (S : Addr) (p : Int) (rows : List (List (List Int))) (d : D) : D := dSum S p (tI (match intsOf d with | [a, b] => partAt rows a.toNat b.toNat | _ => []))
theorem sumAt_all (S : Addr) (p : Int) (rows : List (List (List Int))) : ((tsp rows).map tI).map (sumAt S p rows) = sums S p rows := by
  have h := spots_parts rows 0
  unfold sums
  rw [← h, List.map_map, List.map_map, List.map_map]
  refine List.map_congr_left fun x _ => ?_
  simp only [Function.comp_apply, sumAt, ints_tI]; rfl
theorem keys_all (rows : List (List (List Int))) : (((tsp rows).map tI).map fun d => kI (intsOf d)) = (tsp rows).map kI := by
  rw [List.map_map]
  exact List.map_congr_left fun x _ => by show kI (intsOf (tI x)) = kI x; rw [ints_tI]
theorem spot_in {p : Int} {n : Nat} {rows : List (List (List Int))} (h : RwOk p n rows) {x : List Int} (hx : x ∈ tsp rows) : ∃ (i j : Nat) (ps : List (List Int)) (fs : List Int), x = [(i : Int), (j : Int)] ∧ (rows.map tP)[i]? = some (tP ps) ∧ (ps.map tI)[j]? = some (tI fs) ∧ partAt rows i j = fs ∧ fs ∈ allD p n := by
  obtain ⟨k, j, rfl, _, d, hd, hj⟩ := spotsFrom_mem _ _ x hx
  rw [Nat.sub_zero, List.getElem?_map] at hd
  cases e : rows[k]? with
  | none => rw [e] at hd; cases hd
  | some ps =>
    rw [e] at hd
    cases hd
    rw [rowLen_tP] at hj
    have hm : ps ∈ rows := List.mem_of_getElem? e
    refine ⟨k, j, ps, ps[j], rfl, by rw [List.getElem?_map, e]; rfl, by rw [List.getElem?_map, List.getElem?_eq_getElem hj]; rfl, ?_, (h.ps ps hm).2.2 _ (List.getElem_mem hj)⟩
    unfold partAt
    rw [show rows.getD k [] = ps by rw [List.getD_eq_getElem?_getD, e]; rfl, List.getD_eq_getElem?_getD, List.getElem?_eq_getElem hj]; rfl
section
variable {P : Program} {w : World} {K : PySem.W.Frag} {mg : Str → Option Value} {base : Heap}
def W_tinit (S TC : Addr) : DC := fun ds M Q => ∃ (j : Nat) (p : Int) (n : Nat) (SP : List (List Rw)) (d : D) (es : List D) (rows : List (List (List Int))), ds = [.mu j, .int p, .int n, d] ∧ isSeq d es ∧ es.map lt = rows.map tP ∧ M[j]? = some (.ins TC []) ∧ okM M ∧ Univ p n SP ∧ RwOk p n rows ∧ Q .non (M.set j (.ins TC (tbF S p n rows)))
theorem ok_Table_init (T : Tx P w K mg) : FnOk P w K mg base CX0 10 T.a_Table_init T.f_Table_init ["self", "prime", "size", "pieces"] (spD 4 (W_tinit T.a_Sum T.a_Table) K) := by
  refine pd_fn T.F_Table_init sc_Table_init (fun cdv A outer s H E hr => ⟨_, (pdss_cons (pds_expr (pd_call (ok_expect_prime_and_size T) (hr.mono (by decide)) (by rfl) T.g_expect_prime_and_size T.F_expect_prime_and_size.kp T.b_expect_prime_and_size (pda_cons (pd_name 1) (pda_cons (pd_name 2) pda_nil))))
      (pdss_cons (pds_expr (pd_call (ok_expect_pieces T) (hr.mono (by decide)) (by rfl) T.g_expect_pieces T.F_expect_pieces.kp T.b_expect_pieces (pda_cons (pd_name 1) (pda_cons (pd_name 2) (pda_cons (pd_name 3) pda_nil)))))
      (pdss_cons (pds_fldM (pd_name 1) (pd_name 0))
      (pdss_cons (pds_fldM (pd_name 2) (pd_name 0))
      (pdss_cons (pds_fldM (pd_callTy call_tuple_of sc_tuple (by rfl) T.n_tuple (by decide +kernel) (pda_cons (pd_lc [("parts", 4)] rfl sc_Table_init.nd (pdi_seq (pd_name 3)) (blkOk_by (N := ["self", "prime", "size", "pieces", "parts", "piece", "part", "factors"]) (sc := defScope s_Table_init) (by decide +kernel)) (fun _ _ _ _ _ => (pdg_name 4 sc_Table_init.nd)) (fun _ _ _ _ _ => pdts_nil) (fun _ _ _ _ _ => (pd_callTy call_tuple_of sc_tuple (by rfl) T.n_tuple (by decide +kernel) (pda_cons (pd_lc [("factors", 7)] rfl sc_Table_init.nd (pdi_seq (pd_name 4)) (blkOk_by (by kernel_rfl)) (fun _ _ _ _ _ => (pdg_name 7 sc_Table_init.nd)) (fun _ _ _ _ _ => pdts_nil) (fun _ _ _ _ _ => (pd_callTy call_mkT sc_mkT (by rfl) T.n_tuple (by decide +kernel) (pda_cons (pd_name 7) pda_nil)))) pda_nil)))) pda_nil)) (pd_name 0))
      (pdss_cons (pds_fldM (pd_call (ok_spots_of_parts T) (hr.mono (by decide)) (by rfl) T.g_spots_of_parts T.F_spots_of_parts.kp T.b_spots_of_parts (pda_cons (pd_fldMu (K := K) rfl (pd_name 0)) pda_nil)) (pd_name 0))
      (pdss_cons (pds_fldM (pd_dcT [("piece", 5), ("part", 6)] rfl (Nat.lt_of_le_of_lt (Nat.le_add_right _ 64) hr.units) sc_Table_init.nd (pdi_tup (pd_fldMu (K := K) rfl (pd_name 0))) (blkOk_by (N := ["self", "prime", "size", "pieces", "parts", "piece", "part", "factors"]) (sc := defScope s_Table_init) (by decide +kernel)) (fun _ _ _ _ _ => (pdg_tup (n := 2) rfl (pdgs_cons (pdg_name 5 sc_Table_init.nd) (pdgs_cons (pdg_name 6 sc_Table_init.nd) pdgs_nil)))) (fun _ _ _ _ _ => (pda_cons (pd_name 5) (pda_cons (pd_name 6) pda_nil))) (fun _ _ _ _ _ => (pd_make T.m_Sum (ok_Sum_init T) (hr.mono (by decide)) (by rfl) T.g_Sum T.b_Sum_init (pda_cons (pd_name 1) (pda_cons (pd_ix ix_tup sr_ixT (pd_ix ix_tup sr_ixT (pd_fldMu (K := K) rfl (pd_name 0)) (pd_name 5)) (pd_name 6)) pda_nil))))) (pd_name 0))
      (pdss_one (pds_fldM (pd_prop (pd_methA0 (pd_name 0) T.c_Table.cl T.me_space (ok_Table_space T) (hr.mono (by decide)) T.bd_Table_space T.bv_Table_space) T.c_Space.cl T.pp_Space_is_whole (ok_Space_is_whole T) (hr.mono (by decide)) T.b_Space_is_whole) (pd_name 0)))))))))), fun ds M Q hl h => ?_⟩)
  obtain ⟨j, p, n, SP, d0, es, rows, rfl, hd0, hes, hm, hM, U, hw, q⟩ := h
  have hel : es.length = rows.length := by have := congrArg List.length hes; rwa [List.length_map, List.length_map] at this
  have hsl : sizeLine = 16777216 := by decide
  have hj : j < M.length := (List.getElem?_eq_some_iff.mp hm).1
  obtain ⟨g, g1, g2⟩ := U.g
  have hn1 := U.n1
  have hn4 := U.n4
  have h6 := hw.l6
  have hl10 := tsp_len hw
  have gj : ∀ fs, (M.set j (.ins T.a_Table fs))[j]? = some (.ins T.a_Table fs) := fun fs => List.getElem?_set_self hj
  refine ⟨.int p, rfl, .int n, rfl, rfl, p, g, n, rfl, g1, by omega, g2, ?_⟩
  refine ⟨.int p, rfl, .int n, rfl, _, rfl, rfl, p, n, d0, es, rows, rfl, hd0, hes, by omega, hw, ?_⟩
  refine ⟨.int p, rfl, .mu j, rfl, j, T.a_Table, [], rfl, hm, T.c_Table.cl, T.nb_prime, by decide, ?_⟩
  refine ⟨.int n, rfl, .mu j, rfl, j, T.a_Table, _, rfl, gj _, T.c_Table.cl, T.nb_size, (by show 1 < 1000; decide), ?_⟩
  rw [List.set_set]
  refine ⟨d0, rfl, es, hd0, lc_map lt _ _ (fun d hd R hR => ?_) (by rw [List.length_nil]; omega) ?_⟩
  · obtain ⟨ps, hps, hse⟩ := lt_mem hes hd
    obtain ⟨p1, p3, pf⟩ := hw.ps ps hps
    have hlt : lt d = .tup (ps.map tI) := by rcases hse with rfl | rfl <;> rfl
    rw [hlt] at hR
    refine ⟨d, rfl, _, hse, lc_map (fun d => d) _ _ (fun d hd R2 hR2 => ?_) (by rw [List.length_nil, List.length_map]; omega) ?_⟩
    · obtain ⟨fs, hfs, rfl⟩ := List.mem_map.mp hd
      exact ⟨_, rfl, _, fs, rfl, .inr (.inl ⟨rfl, hR2⟩)⟩
    · rw [List.nil_append, List.map_id']
      exact ⟨_, _, rfl, .inl rfl, hR⟩
  have e1 : [] ++ es.map lt = rows.map tP := by rw [List.nil_append, hes]
  rw [e1]
  refine ⟨_, _, rfl, .inl rfl, .mu j, rfl, j, T.a_Table, _, rfl, gj _, T.c_Table.cl, T.nb_pieces, (by show 2 < 1000; decide), ?_⟩
  rw [List.set_set]
  refine ⟨.mu j, rfl, j, T.a_Table, _, _, rfl, gj _, T.c_Table.cl, T.nb_pieces, rfl, rfl, _, _, rfl, .inr rfl, by rw [List.length_map]; exact h6, rowB_tP hw, .mu j, rfl, j, T.a_Table, _, rfl, gj _, T.c_Table.cl, T.nb_spots, (by show 3 < 1000; decide), ?_⟩
  rw [List.set_set]
  refine ⟨.mu j, rfl, j, T.a_Table, _, _, rfl, gj _, T.c_Table.cl, T.nb_spots, rfl, _, rfl, dcT_map intsOf (sumAt T.a_Sum p rows) _ _ _ (fun d hd ks acc k hk hz hR => ?_) ?_ ?_ ?_⟩
  · obtain ⟨x, hx, rfl⟩ := List.mem_map.mp hd
    obtain ⟨a, b, ps, fs, rfl, ha, hb, he, hfs⟩ := spot_in hw hx
    refine ⟨_, rfl, rfl, _, _, rfl, _, _, rfl, rfl, ?_⟩
    refine ⟨_, rfl, _, rfl, [(a : Int), (b : Int)], rfl, (by show 2 ≤ sizeLine; decide), hk, hz, ?_⟩
    refine ⟨.int p, rfl, .mu j, rfl, j, T.a_Table, _, _, rfl, gj _, T.c_Table.cl, T.nb_pieces, rfl, _, rfl, _, _, _, rfl, rfl, ⟨Int.natCast_nonneg _, ha⟩, _, rfl, _, _, _, rfl, rfl, ⟨Int.natCast_nonneg _, hb⟩, ?_⟩
    refine make_sum (P := fun y M2 => k (ks ++ [kI [(a : Int), (b : Int)]]) (acc ++ [y]) M2) (sum_ok U hfs) (.inr (.inl ⟨rfl, rfl⟩)) (okM_ins hM (ap_tb4 T.a_Sum p n rows _)) ?_
    rw [← he]
    exact hR
  · show (([] : List (List Key)) ++ (((tsp rows).map tI).map fun d => kI (intsOf d))).Nodup
    rw [List.nil_append, keys_all]
    exact List.Pairwise.map kI (fun a b h e => h (kI_inj e)) (sp_nodup _ _)
  · show (([] : List D).length + ((tsp rows).map tI).length) ≤ sizeLine
    rw [List.length_nil, List.length_map]; omega
  have e2 : ([] : List (List Key)) ++ (((spotsFrom 0 (rows.map tP)).map tI).map fun d => kI (intsOf d)) = (tsp rows).map kI := by rw [List.nil_append]; exact keys_all rows
  have e3 : ([] : List D) ++ ((spotsFrom 0 (rows.map tP)).map tI).map (sumAt T.a_Sum p rows) = sums T.a_Sum p rows := by rw [List.nil_append]; exact sumAt_all _ _ _
  rw [e2, e3]
  refine ⟨.mu j, rfl, j, T.a_Table, _, rfl, gj _, T.c_Table.cl, T.nb_sums, (by show 4 < 1000; decide), ?_⟩
  rw [List.set_set]
  refine ⟨.mu j, rfl, _, .inr ⟨j, rfl, gj _⟩, rfl, .mu j, .non, p, n, SP, rows, tsp rows, _, rfl, .inr ⟨j, rfl, gj _⟩, ⟨rfl, rfl, rfl, rfl⟩, okM_ins hM (ap_tb5 _ _ n _ _), U, hw, cs_all rows, .inl ⟨rfl, rfl⟩, ?_⟩
  rw [prt_all]
  refine ⟨_, rfl, p, n, _, rfl, ?_⟩
  refine ⟨.mu j, rfl, j, T.a_Table, _, rfl, gj _, T.c_Table.cl, T.nb_whole, (by show 5 < 1000; decide), ?_⟩
  rw [List.set_set]
  exact q
theorem tbl_dTab {S : Addr} {p : Int} {n : Nat} {rows : List (List (List Int))} : tblF S p n rows (tbF S p n rows) := ⟨rfl, rfl, rfl, rfl⟩
end
section
variable {P : Program} {w : World} {K : PySem.W.Frag} {mg : Str → Option Value} {base : Heap}
def W_tprime (S TC : Addr) : DC := fun ds M Q => ∃ (p : Int) (n : Nat) (rows : List (List (List Int))), ds = [dTab S TC p n rows] ∧ Q (.int p) M
theorem ok_Table_prime (T : Tx P w K mg) : FnOk P w K mg base CX0 1 T.a_Table_prime T.f_Table_prime ["self"] (spD 1 (W_tprime T.a_Sum T.a_Table) K) := by
  refine pd_fn T.F_Table_prime sc_Table_prime (fun cdv A outer s H E hr => ⟨_, (pdss_one (pds_ret (pd_fldK (K := K) rfl (pd_name 0)))), fun ds M Q hl h => ?_⟩)
  obtain ⟨p, n, rows, rfl, q⟩ := h
  exact ⟨_, rfl, _, _, _, rfl, T.c_Table.cl, T.nb_prime, rfl, q⟩
def W_tsize (S TC : Addr) : DC := fun ds M Q => ∃ (p : Int) (n : Nat) (rows : List (List (List Int))), ds = [dTab S TC p n rows] ∧ Q (.int n) M
theorem ok_Table_size (T : Tx P w K mg) : FnOk P w K mg base CX0 1 T.a_Table_size T.f_Table_size ["self"] (spD 1 (W_tsize T.a_Sum T.a_Table) K) := by
  refine pd_fn T.F_Table_size sc_Table_size (fun cdv A outer s H E hr => ⟨_, (pdss_one (pds_ret (pd_fldK (K := K) rfl (pd_name 0)))), fun ds M Q hl h => ?_⟩)
  obtain ⟨p, n, rows, rfl, q⟩ := h
  exact ⟨_, rfl, _, _, _, rfl, T.c_Table.cl, T.nb_size, rfl, q⟩
def W_tlen (S TC : Addr) : DC := fun ds M Q => ∃ (p : Int) (n : Nat) (rows : List (List (List Int))), ds = [dTab S TC p n rows] ∧ Q (.int (rows.length : Nat)) M
theorem ok_Table_len (T : Tx P w K mg) : FnOk P w K mg base CX0 1 T.a_Table_len T.f_Table_len ["self"] (spD 1 (W_tlen T.a_Sum T.a_Table) K) := by
  refine pd_fn T.F_Table_len sc_Table_len (fun cdv A outer s H E hr => ⟨_, (pdss_one (pds_ret (pd_callB call_len_seq sc_len (by rfl) T.n_len (by decide +kernel) (pda_cons (pd_fldK (K := K) rfl (pd_name 0)) pda_nil)))), fun ds M Q hl h => ?_⟩)
  obtain ⟨p, n, rows, rfl, q⟩ := h
  refine ⟨_, rfl, _, _, _, rfl, T.c_Table.cl, T.nb_pieces, rfl, _, .inr rfl, ?_⟩
  rw [List.length_map]
  exact q
theorem ok_Table_iter (T : Tx P w K mg) : FnOk P w K mg base CX0 1 T.a_Table_iter T.f_Table_iter ["self"] (spIt K T.a_Table "_spots") := by
  refine T.F_Table_iter.ok sc_Table_iter (fun vs H Q E h => ?_) (fun cdv A outer s H vs Q E hr h => ⟨_, PSs.nox (pss_one (ps_ret (pe_callB call_iterT (by rfl) T.n_iter (by decide +kernel) (pa_cons (pe_fld (pv 0) rfl) pa_nil)))), ?_⟩)
  · obtain ⟨a, dx, fs, t, xs, rfl, _⟩ := h
    rfl
  · obtain ⟨a, dx, fs, t, xs, rfl, ha, hf, ht, q⟩ := h
    exact ⟨_, rfl, a, T.a_Table, dx, fs, .ref t, rfl, ha, T.c_Table.cl, T.nb_spots, hf, t, xs, rfl, ht, q⟩
def W_tget (S TC : Addr) : DCX := fun ds M Q Xd => ∃ (p : Int) (n : Nat) (rows : List (List (List Int))) (x : List Int), ds = [dTab S TC p n rows, tI x] ∧ x ∈ tsp rows ∧ Q (dSum S p (tI (prt rows x))) M
theorem ok_Table_getitem (T : Tx P w K mg) : FnOk P w K mg base (L2.CX P w) 3 T.a_Table_getitem T.f_Table_getitem ["self", "at"] (spX 2 (W_tget T.a_Sum T.a_Table) K) := by
  refine pd_fnX T.F_Table_getitem sc_Table_getitem (fun cdv A outer s H E hr => ⟨_, (pdssx_cons (pdsx_if (pdt_not (pdt_val (pd_call (ok_is_spot T) (hr.mono (by decide)) (by rfl) T.g_is_spot T.F_is_spot.kp T.b_is_spot (pda_cons (pd_name 1) (pda_cons (pd_fldK (K := K) rfl (pd_name 0)) pda_nil))))) (pdssx_one (pdsx_of pds_never)) pdssx_nil)
      (pdssx_one (pdsx_ret (pdx_of (pd_getT (Nat.lt_of_le_of_lt (Nat.add_le_add_left (by decide : 1 ≤ 64) _) hr.units) (pd_fldK (K := K) rfl (pd_name 0)) (pd_name 1)))))), fun ds M Q Xd hl h => ?_⟩)
  obtain ⟨p, n, rows, x, rfl, hx, q⟩ := h
  obtain ⟨i, j, rfl⟩ := tsp_two rows x hx
  refine ⟨_, rfl, _, rfl, _, _, _, rfl, T.c_Table.cl, T.nb_spots, rfl, rfl, i, j, _, _, rfl, .inr rfl, true, by rw [List.contains_iff_mem.mpr hx], ?_⟩
  exact ⟨_, rfl, _, _, _, rfl, T.c_Table.cl, T.nb_sums, rfl, _, _, rfl, _, rfl, [i, j], _, rfl, sum_at _ _ _ hx, q⟩
end
end K11
set_option Elab.async false
set_option linter.all false
set_option maxRecDepth 100000
set_option maxHeartbeats 4000000
namespace K11
open PySem PySem.Spec PyProof.Rows L2 Pd Spc
def mk (cs : List (List Int)) (x : List Int) : Rw := cs.map fun m => if m = x then 1 else 0
def wrow (rows : List (List (List Int))) (cs : List (List Int)) (x : List Int) : Rw := prt rows x ++ mk cs x
theorem sum_unit (F : List Int → Int) {x : List Int} : ∀ cs : List (List Int), cs.Nodup → x ∈ cs → (cs.map fun m => (if m = x then 1 else 0) * F m).sum = F x
  | [], _, h => nomatch h
  | m :: cs, hn, hx => by
    obtain ⟨h1, h2⟩ := List.nodup_cons.mp hn
    have z : ∀ cs : List (List Int), x ∉ cs → (cs.map fun m => (if m = x then 1 else 0) * F m).sum = 0 := fun cs => by
      induction cs with
      | nil => intro _; rfl
      | cons a cs ih =>
        intro h
        rw [List.map_cons, List.sum_cons, ih fun z => h (List.mem_cons_of_mem _ z), if_neg fun z => h (by rw [z]; exact List.mem_cons_self)]
        omega
    rw [List.map_cons, List.sum_cons]
    by_cases e : m = x
    · subst e
      rw [if_pos rfl, z cs h1]; omega
    · rw [if_neg e, sum_unit F cs h2 ((List.mem_cons.mp hx).resolve_left fun z => e z.symm)]; omega
theorem at_app1 {a b : Rw} {i : Nat} (h : i < a.length) : at_ (a ++ b) i = at_ a i := by
  unfold at_; rw [List.getD_eq_getElem?_getD, List.getD_eq_getElem?_getD, List.getElem?_append_left h]
theorem at_app2 {a b : Rw} {j : Nat} : at_ (a ++ b) (a.length + j) = at_ b j := by
  unfold at_; rw [List.getD_eq_getElem?_getD, List.getD_eq_getElem?_getD, List.getElem?_append_right (by omega), Nat.add_sub_cancel_left]
theorem comb_unit {rows : List (List (List Int))} {cs : List (List Int)} {n : Nat} {x : List Int} (hl : (prt rows x).length = n) (i : Nat) : comb (cs.map (prt rows)) n (wrow rows cs x) i = (cs.map fun m => (if m = x then 1 else 0) * at_ (prt rows m) i).sum := by
  unfold comb
  congr 1
  refine List.ext_getElem (by rw [List.length_map, List.length_range, List.length_map, List.length_map]) fun k h1 h2 => ?_
  rw [List.length_map] at h2
  rw [List.getElem_map, List.getElem_range, List.getElem_map]
  unfold wrow
  rw [← hl, at_app2]
  have e1 : at_ (mk cs x) k = if cs[k] = x then 1 else 0 := by
    rw [at_lt (by unfold mk; rw [List.length_map]; exact h2)]
    unfold mk
    rw [List.getElem_map]
  have e2 : (cs.map (prt rows)).getD k [] = prt rows cs[k] := by
    rw [List.getD_eq_getElem?_getD, List.getElem?_map, List.getElem?_eq_getElem h2]; rfl
  rw [e1, e2]
structure WrOk (p : Int) (n : Nat) (rows : List (List (List Int))) (cs : List (List Int)) (x : List Int) : Prop where
  len : (wrow rows cs x).length = n + cs.length
  inp : InP p (wrow rows cs x)
  lin : Lin (cs.map (prt rows)) n p (wrow rows cs x)
  tk : (wrow rows cs x).take n = prt rows x
theorem wr_ok {p : Int} {n : Nat} {rows : List (List (List Int))} {cs : List (List Int)} {x : List Int} (hp : 2 ≤ p) (hx : prt rows x ∈ allD p n) (hn : cs.Nodup) (hm : x ∈ cs) : WrOk p n rows cs x := by
  obtain ⟨h1, h2⟩ := allD_mem hx
  refine ⟨by unfold wrow mk; rw [List.length_append, h1, List.length_map], fun y hy => ?_, fun i hi => ?_, ?_⟩
  · unfold wrow at hy
    rcases List.mem_append.mp hy with hy | hy
    · exact h2 y hy
    · unfold mk at hy
      obtain ⟨m, _, rfl⟩ := List.mem_map.mp hy
      split <;> omega
  · unfold Spc.off
    rw [comb_unit h1, sum_unit (fun m => at_ (prt rows m) i) cs hn hm]
    unfold wrow
    rw [at_app1 (by rw [h1]; exact hi)]
    exact ⟨0, by omega⟩
  · unfold wrow; rw [← h1]; exact List.take_left
theorem spLt_nodup {cs : List (List Int)} (h : cs.Pairwise spLt) : cs.Nodup := h.imp spLt_ne
theorem cs_wide {p : Int} {n : Nat} {SP : List (List Rw)} {rows : List (List (List Int))} {cs : List (List Int)} (U : Univ p n SP) (hw : RwOk p n rows) (hc : Cs rows cs) :
    Wide (cs.map (prt rows)) (n + cs.length) n p (red p (cs.map (wrow rows cs))) (red p (cs.map (prt rows))) := by
  have hp := U.p2
  have hin : ∀ x ∈ cs, WrOk p n rows cs x := fun x hx => wr_ok hp (prt_in hw (hc.inn x hx)) (spLt_nodup hc.asc) hx
  have h := wide_red (S := cs.map (prt rows)) (W := n + cs.length) (n := n) (p := p) (G := fun R => R ∈ SP) (Y := fun y => y ∈ allD p n) hp U.inv (Nat.le_add_right _ _)
    (fun R y hR hy => (U.step R hR y hy).1) (fun R hR l hl => (U.lrow R hR l hl).2.1) (rows := cs.map (wrow rows cs)) (wide_nil _ _ _ _) U.nil (fun r hr => by
      obtain ⟨x, hx, rfl⟩ := List.mem_map.mp hr
      have k := hin x hx
      exact ⟨k.len, k.inp, k.lin, by rw [k.tk]; exact prt_in hw (hc.inn x hx)⟩)
  have e : (cs.map (wrow rows cs)).map (List.take n) = cs.map (prt rows) := by
    rw [List.map_map]
    exact List.map_congr_left fun x hx => (hin x hx).tk
  rw [e] at h
  exact h
/-- what is left of the wished row -/
def restOf (p : Int) (n : Nat) (rows : List (List (List Int))) (cs : List (List Int)) (y : Rw) : Rw := rmd p (red p (cs.map (wrow rows cs))) (y ++ zero cs.length)
/-- the places of the combination, each with its factor -/
def selOf (p : Int) (n : Nat) (rows : List (List (List Int))) (cs : List (List Int)) (y : Rw) : List (List Int × Int) := (cs.zip (((restOf p n rows cs y).drop n).map fun a => -a % p)).filter fun t => t.2 != 0
structure SelOk (p : Int) (n : Nat) (rows : List (List (List Int))) (cs : List (List Int)) (y : Rw) : Prop where
  len : (restOf p n rows cs y).length = n + cs.length
  inp : InP p (restOf p n rows cs y)
  tk : (restOf p n rows cs y).take n = rmd p (red p (cs.map (prt rows))) y
  giv : nz (rmd p (red p (cs.map (prt rows))) y) = false → ((selOf p n rows cs y).map fun t => (prt rows t.1, t.2)).foldl (addm p) (zero n) = y
theorem facs_sel {p : Int} {n : Nat} {rows : List (List (List Int))} {cs : List (List Int)} {rest : Rw} (hl : rest.length = n + cs.length) : facs (cs.map (prt rows)) n p rest = ((cs.zip ((rest.drop n).map fun a => -a % p)).filter fun t => t.2 != 0).map fun t => (prt rows t.1, t.2) := by
  unfold facs
  have e : ((List.range (cs.map (prt rows)).length).map fun j => ((cs.map (prt rows)).getD j [], -at_ rest (n + j) % p)) = (cs.zip ((rest.drop n).map fun a => -a % p)).map fun t => (prt rows t.1, t.2) := by
    refine List.ext_getElem ?_ fun k h1 h2 => ?_
    · rw [List.length_map, List.length_range, List.length_map, List.length_map, List.length_zip, List.length_map, List.length_drop]; omega
    · rw [List.length_map, List.length_range, List.length_map] at h1
      rw [List.getElem_map, List.getElem_range, List.getElem_map, List.getElem_zip, List.getElem_map, List.getElem_drop]
      rw [at_lt (by omega), List.getD_eq_getElem?_getD, List.getElem?_map, List.getElem?_eq_getElem h1]; rfl
  rw [e, List.filter_map]; rfl
theorem sel_ok {p : Int} {n : Nat} {SP : List (List Rw)} {rows : List (List (List Int))} {cs : List (List Int)} {y : Rw} (U : Univ p n SP) (hw : RwOk p n rows) (hc : Cs rows cs) (hy : y ∈ allD p n) : SelOk p n rows cs y := by
  have hp := U.p2
  obtain ⟨y1, y2⟩ := allD_mem hy
  have W := cs_wide U hw hc
  have hRS : red p (cs.map (prt rows)) ∈ SP := red_in U _ _ U.nil fun r hr => by obtain ⟨x, hx, rfl⟩ := List.mem_map.mp hr; exact prt_in hw (hc.inn x hx)
  have W' : Wide (cs.map (prt rows)) (n + (cs.map (prt rows)).length) n p (red p (cs.map (wrow rows cs))) (red p (cs.map (prt rows))) := by rw [List.length_map]; exact W
  obtain ⟨h1, h2, h3, h4⟩ := wide_rest hp W' (fun l hl => (U.lrow _ hRS l hl).2.1) y1 y2
  rw [List.length_map] at h1 h2 h3 h4
  refine ⟨h1, h2, h3, fun hz => ?_⟩
  unfold selOf restOf
  rw [← facs_sel h1]
  exact comb_gives (by omega) (fun s hs => by obtain ⟨x, hx, rfl⟩ := List.mem_map.mp hs; exact (allD_mem (prt_in hw (hc.inn x hx))).1) y1 y2 (h4 hz)
end K11
set_option Elab.async false
set_option linter.all false
set_option maxRecDepth 100000
set_option maxHeartbeats 4000000
namespace K11
open PySem PySem.Spec PyProof.Rows L2 Pd Spc
theorem eqT (x y : List Int) : eqD (tI x) (tI y) = decide (x = y) := eqD_tup x y
def fac1 (p : Int) : D → D | .int a => .int (-a % p) | d => d
def pairK : D → Option D | .tup [x, .int f] => if f = 0 then none else some (.tup [x, .int f]) | _ => none
def dSel (t : List Int × Int) : D := .tup [tI t.1, .int t.2]
theorem pair_sel : ∀ (cs : List (List Int)) (fs : List Int), (pairs (cs.map tI) (dI fs)).filterMap pairK = ((cs.zip fs).filter fun t => t.2 != 0).map dSel
  | [], [] => rfl
  | [], _ :: _ => rfl
  | _ :: _, [] => rfl
  | c :: cs, f :: fs => by
    have ih := pair_sel cs fs
    show List.filterMap pairK (D.tup [tI c, .int f] :: pairs (cs.map tI) (dI fs)) = _
    rw [List.zip_cons_cons]
    by_cases h : f = 0
    · rw [List.filterMap_cons_none (f := pairK) (show pairK (.tup [tI c, .int f]) = none from if_pos h), ih, List.filter_cons_of_neg (by simpa using h)]
    · rw [List.filterMap_cons_some (f := pairK) (show pairK (.tup [tI c, .int f]) = some _ from if_neg h), ih, List.filter_cons_of_pos (by simpa using h)]; rfl
theorem cut_drop (es : List D) (n : Nat) (h : n ≤ es.length) : Pd.cutD es (some (n : Int)) none = es.drop n := by
  unfold Pd.cutD
  have e1 : HT.sIx es.length 0 (some (n : Int)) = n := by
    unfold HT.sIx
    simp only
    rw [if_neg (by omega), Int.toNat_natCast]; omega
  have e2 : HT.sIx es.length es.length none = es.length := rfl
  rw [e1, e2]
  exact List.take_of_length_le (by rw [List.length_drop]; omega)
theorem cut_take (es : List D) (n : Nat) (h : n ≤ es.length) : Pd.cutD es none (some (n : Int)) = es.take n := by
  unfold Pd.cutD
  have e1 : HT.sIx es.length 0 none = 0 := rfl
  have e2 : HT.sIx es.length es.length (some (n : Int)) = n := by
    unfold HT.sIx
    simp only
    rw [if_neg (by omega), Int.toNat_natCast]; omega
  rw [e1, e2]
  simp
section
variable {P : Program} {w : World} {K : PySem.W.Frag} {mg : Str → Option Value} {base : Heap}
def W_ask (S TC : Addr) : DC := fun ds M Q => ∃ (p : Int) (n : Nat) (SP : List (List Rw)) (rows : List (List (List Int))) (cs : List (List Int)) (f : D) (y : Rw), ds = [dTab S TC p n rows, .lst (cs.map tI), dSum S p f] ∧ Univ p n SP ∧ RwOk p n rows ∧ Cs rows cs ∧ fgD f = .tup (dI y) ∧ y ∈ allD p n ∧ Q .non M
theorem ok_expect_question (T : Tx P w K mg) : FnOk P w K mg base CX0 5 T.a_expect_question T.f_expect_question ["table", "spots", "item"] (spD 3 (W_ask T.a_Sum T.a_Table) K) := by
  refine pd_fn T.F_expect_question sc_expect_question (fun cdv A outer s H E hr => ⟨_, (pdss_cons (pds_if (pdt_not (pdt_val (pd_call (ok_are_spots T) (hr.mono (by decide)) (by rfl) T.g_are_spots T.F_are_spots.kp T.b_are_spots (pda_cons (pd_name 1) (pda_cons (pd_callTy (call_listOwnT T.it_Table (ok_Table_iter T) T.b_Table_iter (ok_Table_len T) T.b_Table_len (hr.mono (by decide))) sc_listOwnT (by rfl) T.n_list (by decide +kernel) (pda_cons (pd_name 0) pda_nil)) pda_nil))))) (pdss_one pds_never) pdss_nil)
      (pdss_one (pds_if (pdt_not (pdt_val (pd_call (ok_is_sum T) (hr.mono (by decide)) (by rfl) T.g_is_sum T.F_is_sum.kp T.b_is_sum (pda_cons (pd_prop (pd_name 0) T.c_Table.cl T.pp_Table_prime (ok_Table_prime T) (hr.mono (by decide)) T.b_Table_prime) (pda_cons (pd_prop (pd_name 0) T.c_Table.cl T.pp_Table_size (ok_Table_size T) (hr.mono (by decide)) T.b_Table_size) (pda_cons (pd_name 2) pda_nil)))))) (pdss_one pds_never) pdss_nil))), fun ds M Q hl h => ?_⟩)
  obtain ⟨p, n, SP, rows, cs, f, y, rfl, U, hw, hc, hf, hy, q⟩ := h
  have h10 := tsp_len hw
  have h6 := hw.l6
  obtain ⟨y1, y2⟩ := allD_mem hy
  refine ⟨_, rfl, _, rfl, _, _, rfl, rfl, p, n, rows, rfl, (rows.length : Nat), rfl, ⟨by omega, by omega⟩, rfl, _, _, cs, tsp rows, rfl, .inl rfl, .inl rfl, by omega, hc.len, fun x hx => ⟨hc.inn x hx, tsp_two rows x (hc.inn x hx)⟩, hc.asc, true, rfl, ?_⟩
  exact ⟨_, rfl, _, rfl, p, n, rows, rfl, _, rfl, _, rfl, p, n, rows, rfl, _, rfl, rfl, p, n, _, rfl, .inl ⟨p, f, y, rfl, hf, true, by rw [y1, decide_eq_true rfl, decide_eq_true rfl]; rfl, q⟩⟩
def W_comb (S TC : Addr) : DC := fun ds M Q => ∃ (p : Int) (n : Nat) (SP : List (List Rw)) (rows : List (List (List Int))) (cs : List (List Int)) (f : D) (y : Rw), ds = [dTab S TC p n rows, .lst (cs.map tI), dSum S p f] ∧ Univ p n SP ∧ RwOk p n rows ∧ Cs rows cs ∧ fgD f = .tup (dI y) ∧ y ∈ allD p n ∧
  (if nz (rmd p (red p (cs.map (prt rows))) y) = true then Q .non M else Q (.tup ((selOf p n rows cs y).map dSel)) M)
theorem ok_combination_for (T : Tx P w K mg) : FnOk P w K mg base CX0 6 T.a_combination_for T.f_combination_for ["table", "spots", "item"] (spD 3 (W_comb T.a_Sum T.a_Table) K) := by
  refine pd_fn T.F_combination_for sc_combination_for (fun cdv A outer s H E hr => ⟨_, (pdss_cons (pds_setLc 3 [("spot", 7)] rfl sc_combination_for.nd rfl rfl (sw_true rfl rfl rfl (by decide +kernel)) (pdi_list (pd_name 1)) (blkOk_by (N := ["table", "spots", "item", "rows", "wished", "rest", "factors", "spot", "factor", "_", "mark"]) (sc := defScope s_combination_for) (by decide +kernel)) (fun _ _ _ _ _ => (pdg_name 7 sc_combination_for.nd)) (fun _ _ _ _ _ => pdts_nil) (fun _ _ _ _ _ => (pd_tup (pda_star (pd_fg (pd_prop (pd_ownIxN T.gi_Table T.gf_Table T.gn_Table (ok_Table_getitem T) T.b_Table_getitem (hr.mono (by decide)) (pd_name 0) (pd_name 7)) T.c_Sum.cl T.pp_Sum_factors (ok_Sum_factors T) (hr.mono (by decide)) T.b_Sum_factors)) (pda_star (pd_lc [("mark", 10)] rfl sc_combination_for.nd (pdi_list (pd_name 1)) (blkOk_by (by kernel_rfl)) (fun _ _ _ _ _ => (pdg_name 10 sc_combination_for.nd)) (fun _ _ _ _ _ => pdts_nil) (fun _ _ _ _ _ => (pd_ifExp (pdt_cmp (op_eqD hr.units) sr_eq (pd_name 10) (pd_name 7) (nomark _)) pd_int pd_int))) pda_nil)))))
      (pdss_cons (pds_set 4 sc_combination_for.nd (pd_tup (pda_star (pd_fg (pd_prop (pd_name 2) T.c_Sum.cl T.pp_Sum_factors (ok_Sum_factors T) (hr.mono (by decide)) T.b_Sum_factors)) (pda_star (pd_lc [("_", 9)] rfl sc_combination_for.nd (pdi_list (pd_name 1)) (blkOk_by (N := ["table", "spots", "item", "rows", "wished", "rest", "factors", "spot", "factor", "_", "mark"]) (sc := defScope s_combination_for) (by decide +kernel)) (fun _ _ _ _ _ => (pdg_name 9 sc_combination_for.nd)) (fun _ _ _ _ _ => pdts_nil) (fun _ _ _ _ _ => pd_int)) pda_nil))))
      (pdss_cons (pds_set 5 sc_combination_for.nd (pd_call (ok_remainder T) (hr.mono (by decide)) (by rfl) T.g_remainder T.F_remainder.kp T.b_remainder (pda_cons (pd_prop (pd_name 0) T.c_Table.cl T.pp_Table_prime (ok_Table_prime T) (hr.mono (by decide)) T.b_Table_prime) (pda_cons (pd_call (ok_reduced_rows T) (hr.mono (by decide)) (by rfl) T.g_reduced_rows T.F_reduced_rows.kp T.b_reduced_rows (pda_cons (pd_prop (pd_name 0) T.c_Table.cl T.pp_Table_prime (ok_Table_prime T) (hr.mono (by decide)) T.b_Table_prime) (pda_cons (pd_name 3) pda_nil))) (pda_cons (pd_name 4) pda_nil)))))
      (pdss_cons (pds_if (pdt_val (pd_callB (cr_anyT rfl) sc_anyT (by rfl) T.n_any (by decide +kernel) (pda_cons (pd_slS (pd_fg (pd_name 5)) pdo_no (pdo_some (pd_prop (pd_name 0) T.c_Table.cl T.pp_Table_size (ok_Table_size T) (hr.mono (by decide)) T.b_Table_size))) pda_nil))) (pdss_one (pds_ret pd_non)) pdss_nil)
      (pdss_cons (pds_setLc 6 [("factor", 8)] rfl sc_combination_for.nd rfl rfl (sw_true rfl rfl rfl (by decide +kernel)) (pdi_tup (pd_slS (pd_fg (pd_name 5)) (pdo_some (pd_prop (pd_name 0) T.c_Table.cl T.pp_Table_size (ok_Table_size T) (hr.mono (by decide)) T.b_Table_size)) pdo_no)) (blkOk_by (N := ["table", "spots", "item", "rows", "wished", "rest", "factors", "spot", "factor", "_", "mark"]) (sc := defScope s_combination_for) (by decide +kernel)) (fun _ _ _ _ _ => (pdg_name 8 sc_combination_for.nd)) (fun _ _ _ _ _ => pdts_nil) (fun _ _ _ _ _ => (pd_op op_mod sr_I (pd_un un_neg su_U (pd_name 8)) (pd_prop (pd_name 0) T.c_Table.cl T.pp_Table_prime (ok_Table_prime T) (hr.mono (by decide)) T.b_Table_prime))))
      (pdss_one (pds_ret (pd_callTy call_tuple_of sc_tuple (by rfl) T.n_tuple (by decide +kernel) (pda_cons (pd_lc [("spot", 7), ("factor", 8)] rfl sc_combination_for.nd (pdi_zip (by rfl) T.n_zip (pda_cons (pd_name 1) (pda_cons (pd_name 6) pda_nil))) (blkOk_by (N := ["table", "spots", "item", "rows", "wished", "rest", "factors", "spot", "factor", "_", "mark"]) (sc := defScope s_combination_for) (by decide +kernel)) (fun _ _ _ _ _ => (pdg_tup (n := 2) rfl (pdgs_cons (pdg_name 7 sc_combination_for.nd) (pdgs_cons (pdg_name 8 sc_combination_for.nd) pdgs_nil)))) (fun _ _ _ _ _ => pdts_one (pdt_cmp (op_neD hr.units) sr_ne (pd_name 8) pd_int (nomark _))) (fun _ _ _ _ _ => (pd_tup (pda_cons (pd_name 7) (pda_cons (pd_name 8) pda_nil))))) pda_nil))))))))), fun ds M Q hl h => ?_⟩)
  obtain ⟨p, n, SP, rows, cs, f, y, rfl, U, hw, hc, hf, hy, q⟩ := h
  have hsl : sizeLine = 16777216 := by decide
  have h10 := tsp_len hw
  have hcl := hc.len
  have hp := U.p2
  have hp7 := U.p7
  have hn4 := U.n4
  obtain ⟨y1, y2⟩ := allD_mem hy
  have hin : ∀ x ∈ cs, WrOk p n rows cs x := fun x hx => wr_ok hp (prt_in hw (hc.inn x hx)) (spLt_nodup hc.asc) hx
  refine ⟨_, rfl, _, rfl, lc_map (fun d => .tup (dI (wrow rows cs (intsOf d)))) _ _ (fun d hd R hR => ?_) (by rw [List.length_nil, List.length_map]; omega) ?_⟩
  · obtain ⟨x, hx, rfl⟩ := List.mem_map.mp hd
    have hR' : R (.tup (dI (wrow rows cs (intsOf (tI x))))) M := hR
    rw [ints_tI] at hR'
    refine ⟨_, rfl, _, rfl, _, rfl, p, n, rows, x, rfl, hc.inn x hx, _, rfl, p, _, rfl, dI (prt rows x), .inr rfl, ?_⟩
    refine ⟨_, rfl, _, rfl, lc_map (fun d => .int (if intsOf d = x then 1 else 0)) _ _ (fun d2 hd2 R2 hR2 => ?_) (by rw [List.length_nil, List.length_map]; omega) ?_⟩
    · obtain ⟨m, hm, rfl⟩ := List.mem_map.mp hd2
      have hR3 : R2 (.int (if intsOf (tI m) = x then 1 else 0)) M := hR2
      rw [ints_tI] at hR3
      refine ⟨_, rfl, _, rfl, okD_tup m, okD_tup x, decide (m = x), by rw [eqT], ?_⟩
      by_cases e : m = x
      · rw [if_pos e] at hR3; rw [decide_eq_true e]; exact hR3
      · rw [if_neg e] at hR3; rw [decide_eq_false e]; exact hR3
    · have em : ([] : List D) ++ (cs.map tI).map (fun d => D.int (if intsOf d = x then 1 else 0)) = dI (mk cs x) := by
        rw [List.nil_append]
        unfold mk
        show _ = List.map D.int (List.map _ _)
        rw [List.map_map, List.map_map]
        exact List.map_congr_left fun m _ => by show D.int (if intsOf (tI m) = x then 1 else 0) = _; rw [ints_tI]; rfl
      rw [em]
      refine ⟨_, .inl rfl, ?_⟩
      have hlen := (hin x hx).len
      have ew : dI (prt rows x) ++ (dI (mk cs x) ++ []) = dI (wrow rows cs x) := by rw [List.append_nil]; unfold wrow; exact (List.map_append).symm
      show ((dI (prt rows x) ++ (dI (mk cs x) ++ [])).length ≤ sizeLine ∧ R (.tup (dI (prt rows x) ++ (dI (mk cs x) ++ []))) M)
      rw [ew]
      exact ⟨by rw [List.length_map]; omega, hR'⟩
  have er : ([] : List D) ++ (cs.map tI).map (fun d => D.tup (dI (wrow rows cs (intsOf d)))) = (cs.map (wrow rows cs)).map tD := by
    rw [List.nil_append, List.map_map, List.map_map]
    exact List.map_congr_left fun x _ => by show D.tup (dI (wrow rows cs (intsOf (tI x)))) = _; rw [ints_tI]; rfl
  rw [er]
  refine ⟨_, rfl, _, rfl, p, f, rfl, dI y, .inr hf, _, rfl, _, rfl, lc_map (fun _ => .int 0) _ _ (fun d hd R hR => hR) (by rw [List.length_nil, List.length_map]; omega) ?_⟩
  have ez : ([] : List D) ++ (cs.map tI).map (fun _ => D.int 0) = dI (zero cs.length) := by
    rw [List.nil_append, List.map_map]
    show cs.map (fun _ => D.int 0) = List.map D.int (List.replicate cs.length 0)
    rw [List.map_const', List.map_replicate]
  rw [ez]
  refine ⟨_, .inl rfl, ?_⟩
  have ew : dI y ++ (dI (zero cs.length) ++ []) = dI (y ++ zero cs.length) := by rw [List.append_nil]; exact (List.map_append).symm
  have hyl : (y ++ zero cs.length).length = n + cs.length := by rw [List.length_append, y1]; unfold zero; rw [List.length_replicate]
  refine ⟨(by show (dI y ++ (dI (zero cs.length) ++ [])).length ≤ sizeLine; rw [ew, List.length_map, hyl]; omega), ?_⟩
  rw [ew]
  have SO := sel_ok U hw hc hy
  refine ⟨_, rfl, _, rfl, p, n, rows, rfl, _, rfl, _, rfl, p, n, rows, rfl, _, rfl, rfl, p, n + cs.length, _, cs.map (wrow rows cs), rfl, hp, hp7, U.inv, by omega, ?_, by rw [List.length_map]; omega, fun r hr => ?_, ?_⟩
  · rw [List.map_map]; rfl
  · obtain ⟨x, hx, rfl⟩ := List.mem_map.mp hr
    exact ⟨(hin x hx).len, (hin x hx).inp⟩
  have hRR : Rref (n + cs.length) p (red p (cs.map (wrow rows cs))) := red_rref hp U.inv _ _ (rref_nil _ _) fun r hr => by
    obtain ⟨x, hx, rfl⟩ := List.mem_map.mp hr
    exact ⟨(hin x hx).len, (hin x hx).inp⟩
  refine ⟨_, rfl, rfl, p, _, red p (cs.map (wrow rows cs)), y ++ zero cs.length, n + cs.length, rfl, rfl, by omega, hyl, by omega, rref_low hp7 hRR, fun d hd _ => ?_⟩
  have hd' : fgD d = .tup (dI (restOf p n rows cs y)) := hd
  obtain ⟨s1, s2, s3, _⟩ := SO
  unfold selOf at q
  generalize restOf p n rows cs y = rest at hd' s1 s2 s3 q
  refine ⟨d, rfl, dI rest, .inr hd', _, rfl, _, rfl, p, n, rows, rfl, n, rfl, rest.take n, ?_, nz (rest.take n), rfl, ?_⟩
  · rw [hd']
    show [D.tup (Pd.cutD (dI rest) none (some (n : Int)))] = [D.tup (dI (rest.take n))]
    rw [cut_take _ _ (by rw [List.length_map]; omega)]
    show [D.tup ((rest.map D.int).take n)] = [D.tup ((rest.take n).map D.int)]
    rw [List.map_take]
  rw [s3]
  cases hz : nz (rmd p (red p (cs.map (prt rows))) y) with
  | true => rw [hz, if_pos rfl] at q; exact q
  | false =>
    rw [hz, if_neg Bool.false_ne_true] at q
    refine ⟨d, rfl, dI rest, .inr hd', _, rfl, _, rfl, p, n, rows, rfl, n, rfl, Pd.cutD (dI rest) (some (n : Int)) none, by rw [hd']; rfl, ?_⟩
    rw [cut_drop _ _ (by rw [List.length_map]; omega)]
    refine lc_map (fac1 p) _ _ (fun e he R hR => ?_) (by rw [List.length_nil, List.length_drop, List.length_map]; omega) ?_
    · obtain ⟨a, ha, rfl⟩ := List.mem_map.mp (List.mem_of_mem_drop he)
      exact ⟨_, rfl, a, rfl, _, rfl, _, rfl, p, n, rows, rfl, _, p, rfl, rfl, by omega, hR⟩
    have ef : ([] : List D) ++ ((dI rest).drop n).map (fac1 p) = dI ((rest.drop n).map fun a => -a % p) := by
      rw [List.nil_append]
      show ((rest.map D.int).drop n).map _ = List.map D.int (List.map _ _)
      rw [← List.map_drop, List.map_map, List.map_map]; rfl
    rw [ef]
    refine ⟨_, rfl, _, rfl, _, _, cs.map tI, dI ((rest.drop n).map fun a => -a % p), rfl, .inl rfl, .inl rfl, lc_fmap pairK _ _ (fun e he R S hR hS => ?_) ?_ ?_⟩
    · obtain ⟨u, v, hu, hv, rfl⟩ := pairs_in _ _ _ he
      obtain ⟨x, hx, rfl⟩ := List.mem_map.mp hu
      obtain ⟨a, ha, rfl⟩ := List.mem_map.mp hv
      refine ⟨_, rfl, rfl, _, _, rfl, _, _, rfl, rfl, _, rfl, rfl, rfl, !decide (a = 0), by rw [eqD_int], ?_⟩
      by_cases e : a = 0
      · rw [decide_eq_true e]; exact hS (if_pos e)
      · rw [decide_eq_false e]; exact ⟨_, rfl, _, rfl, (by show 2 ≤ sizeLine; decide), hR _ (if_neg e)⟩
    · rw [List.length_nil, Pd.pairs_len, List.length_map]; omega
    · rw [List.nil_append, pair_sel]
      exact ⟨_, _, rfl, .inl rfl, q⟩
def W_have (S TC : Addr) : DC := fun ds M Q => ∃ (p : Int) (n : Nat) (SP : List (List Rw)) (rows : List (List (List Int))) (cs : List (List Int)) (f : D) (y : Rw), ds = [dTab S TC p n rows, .lst (cs.map tI), dSum S p f] ∧ Univ p n SP ∧ RwOk p n rows ∧ Cs rows cs ∧ fgD f = .tup (dI y) ∧ y ∈ allD p n ∧ okM M ∧
  (if nz (rmd p (red p (cs.map (prt rows))) y) = true then (match blind p n (red p (cs.map (prt rows))) y with | none => Q (.tup [.str "blind", .non]) M | some d => Q (.tup [.str "blind", .tfz d]) M) else Q (.tup [.str "combination", .tup ((selOf p n rows cs y).map dSel)]) M)
theorem ok_have (T : Tx P w K mg) : FnOk P w K mg base CX0 10 T.a_have T.f_have ["table", "spots", "item"] (spD 3 (W_have T.a_Sum T.a_Table) K) := by
  refine pd_fn T.F_have sc_have (fun cdv A outer s H E hr => ⟨_, (pdss_cons (pds_expr (pd_call (ok_expect_question T) (hr.mono (by decide)) (by rfl) T.g_expect_question T.F_expect_question.kp T.b_expect_question (pda_cons (pd_name 0) (pda_cons (pd_name 1) (pda_cons (pd_name 2) pda_nil)))))
      (pdss_cons (pds_set 3 sc_have.nd (pd_call (ok_combination_for T) (hr.mono (by decide)) (by rfl) T.g_combination_for T.F_combination_for.kp T.b_combination_for (pda_cons (pd_name 0) (pda_cons (pd_name 1) (pda_cons (pd_name 2) pda_nil)))))
      (pdss_cons (pds_if (pdt_cmp op_is0 sr_is0 (pd_name 3) pd_non (nomark _)) (pdss_one (pds_ret (pd_tup (pda_cons pd_str (pda_cons (pd_methD (pd_methD (pd_name 0) T.c_Table.cl T.me_space (ok_Table_space T) (hr.mono (by decide)) T.b_Table_space (pda_cons (pd_name 1) pda_nil)) T.c_Space.cl T.me_blind (ok_Space_blind_data T) (hr.mono (by decide)) T.b_Space_blind_data (pda_cons (pd_name 2) pda_nil)) pda_nil))))) pdss_nil)
      (pdss_one (pds_ret (pd_tup (pda_cons pd_str (pda_cons (pd_name 3) pda_nil)))))))), fun ds M Q hl h => ?_⟩)
  obtain ⟨p, n, SP, rows, cs, f, y, rfl, U, hw, hc, hf, hy, hM, q⟩ := h
  have hRS : red p (cs.map (prt rows)) ∈ SP := red_in U _ _ U.nil fun r hr => by obtain ⟨x, hx, rfl⟩ := List.mem_map.mp hr; exact prt_in hw (hc.inn x hx)
  refine ⟨_, rfl, _, rfl, _, rfl, rfl, p, n, SP, rows, cs, f, y, rfl, U, hw, hc, hf, hy, ?_⟩
  refine ⟨_, rfl, _, rfl, _, rfl, rfl, p, n, SP, rows, cs, f, y, rfl, U, hw, hc, hf, hy, ?_⟩
  cases hz : nz (rmd p (red p (cs.map (prt rows))) y) with
  | true =>
    rw [hz, if_pos rfl] at q
    rw [if_pos rfl]
    refine ⟨_, rfl, rfl, true, rfl, ?_⟩
    refine ⟨_, rfl, _, rfl, rfl, _, rfl, rfl, _, _, p, n, SP, rows, cs, _, rfl, .inl rfl, tbl_dTab, hM, U, hw, hc, .inr (.inl rfl), _, rfl, rfl, _, rfl, rfl, p, n, SP, _, f, y, rfl, U, hRS, hf, hy, ?_⟩
    cases hb : blind p n (red p (cs.map (prt rows))) y with
    | none => rw [hb] at q; exact ⟨(by show 2 ≤ sizeLine; decide), q⟩
    | some d => rw [hb] at q; exact ⟨(by show 2 ≤ sizeLine; decide), q⟩
  | false =>
    rw [hz, if_neg Bool.false_ne_true] at q
    rw [if_neg Bool.false_ne_true]
    refine ⟨_, rfl, rfl, false, rfl, ?_⟩
    exact ⟨_, rfl, (by show 2 ≤ sizeLine; decide), q⟩
end
end K11
set_option Elab.async false
set_option linter.all false
set_option maxRecDepth 100000
set_option maxHeartbeats 4000000
namespace K11
namespace X
open PySem PySem.Spec PyProof.Rows L2 Pd Spc
def spotB (sp : List (List Int)) : D → Bool
  | .tup [.int i, .int j] => decide ([i, j] ∈ sp)
  | _ => false
theorem spotB_len {sp : List (List Int)} {xs : List D} (h : xs.length ≠ 2) : spotB sp (.tup xs) = false := by
  match xs, h with
  | [], _ => rfl
  | [x], _ => cases x <;> rfl
  | [_, _], h => exact absurd rfl h
  | x :: y :: z :: r, _ => cases x <;> cases y <;> rfl
theorem okD_seqT {e : D} {sp : List (List Int)} (h : isSeq e (sp.map tI)) : okD e = true := by rcases h with rfl | rfl <;> exact okD_tuples sp
def itemsD : D → Option (List D) | .lst xs => some xs | .tup xs => some xs | _ => none
theorem isSeq_items {d : D} {xs : List D} (h : isSeq d xs) : itemsD d = some xs := by rcases h with rfl | rfl <;> rfl
section
variable {P : Program} {w : World} {K : PySem.W.Frag} {mg : Str → Option Value} {base : Heap}
def W_has_items : DC := fun ds M Q => ∃ d t lo hi, ds = [d, .int lo, .int hi] ∧ tyN d = some t ∧ Q (.bl (hasB lo hi d)) M
theorem ok_has_items (T : Tx P w K mg) : FnOk P w K mg base CX0 1 T.a_has_items T.f_has_items ["value", "least", "most"] (spD 3 W_has_items K) := by
  refine pd_fn T.F_has_items sc_has_items (fun cdv A outer s H E hr => ⟨_, (pdss_one (pds_ret (pd_and (pd_isi2 (T1 := "list") (T2 := "tuple") (by rfl) T.n_isinstance (pd_name 0) (by rfl) T.n_list (by decide +kernel) (by rfl) T.n_tuple (by decide +kernel)) (pd_one (pd_chain op_le sr_I0b op_le sr_I0b (pd_name 1) (pd_callB call_len_seq sc_len (by rfl) T.n_len (by decide +kernel) (pda_cons (pd_name 0) pda_nil)) (pd_name 2)))))), fun ds M Q hl h => ?_⟩)
  obtain ⟨d, t, lo, hi, rfl, ht, q⟩ := h
  have hd := dty (K := K) ht
  rcases seq_or (K := K) ht with ⟨xs, hx, hk, hb⟩ | ⟨hk, hb⟩
  · rw [hb] at q
    refine ⟨d, rfl, .type t, true, hd, hk, true, rfl, ?_⟩
    refine ⟨_, rfl, d, rfl, xs, (by rcases hx with rfl | rfl; exact .inl rfl; exact .inr rfl), _, _, rfl, rfl, _, rfl, ?_⟩
    by_cases h1 : lo ≤ (xs.length : Int)
    · rw [decide_eq_true h1] at q ⊢
      exact ⟨_, rfl, _, _, rfl, rfl, q⟩
    · rw [decide_eq_false h1] at q ⊢
      exact q
  · rw [hb] at q
    exact ⟨_, rfl, _, false, hd, hk, false, rfl, q⟩
def W_all_between : DC := fun ds M Q => ∃ d xs lo hi, ds = [d, .int lo, .int hi] ∧ isSeq d xs ∧ (∀ x ∈ xs, ∃ t, tyN x = some t) ∧ xs.length ≤ sizeLine ∧ Q (.bl (xs.all (btwB lo hi))) M
theorem ok_all_between (T : Tx P w K mg) : FnOk P w K mg base CX0 3 T.a_all_between T.f_all_between ["items", "low", "high"] (spD 3 W_all_between K) := by
  refine pd_fn T.F_all_between sc_all_between (fun cdv A outer s H E hr => ⟨_, (pdss_one (pds_ret (pd_callB (cr_all rfl) sc_all (by rfl) T.n_all (by decide +kernel) (pda_cons (pd_lc [("item", 3)] rfl sc_all_between.nd (pdi_seq (pd_name 0)) (blkOk_by (N := ["items", "low", "high", "item"]) (sc := defScope s_all_between) (by decide +kernel)) (fun _ _ _ _ _ => (pdg_name 3 sc_all_between.nd)) (fun _ _ _ _ _ => pdts_nil) (fun _ _ _ _ _ => (pd_call (ok_is_between T) (hr.mono (by decide)) (by rfl) T.g_is_between T.F_is_between.kp T.b_is_between (pda_cons (pd_name 3) (pda_cons (pd_name 1) (pda_cons (pd_name 2) pda_nil)))))) pda_nil)))), fun ds M Q hl h => ?_⟩)
  obtain ⟨d, xs, lo, hi, rfl, hs, ht, hz, q⟩ := h
  refine ⟨d, rfl, xs, hs, lc_map (fun d => .bl (btwB lo hi d)) _ _ (fun e he R hR => ?_) (by simpa using hz) ?_⟩
  · obtain ⟨t, ht⟩ := ht e he
    refine ⟨e, rfl, .int lo, rfl, .int hi, rfl, rfl, e, t, lo, hi, rfl, ht, fun i z => ?_, fun z => ?_⟩
    · subst z; exact hR
    · cases e <;> first | exact hR | cases z
  · refine ⟨xs.map (btwB lo hi), ?_, ?_⟩
    · rw [List.nil_append, List.map_map]
      rfl
    · rw [List.all_map]
      exact q
def W_is_spot : DC := fun ds M Q => ∃ d t e sp, ds = [d, e] ∧ isSeq e (sp.map tI) ∧ tyN d = some t ∧ (∀ xs, d = .tup xs → ∀ x ∈ xs, ∃ t, tyN x = some t) ∧ Q (.bl (spotB sp d)) M
theorem any_spot (sp : List (List Int)) (i j : Int) : ((sp.map tI).any fun z => eqD z (.tup [.int i, .int j])) = decide ([i, j] ∈ sp) := by
  rw [List.any_map]
  have : ((fun z => eqD z (.tup [.int i, .int j])) ∘ tI) = fun xs : List Int => decide (xs = [i, j]) := by
    funext xs
    exact eqD_tup xs [i, j]
  rw [this, Bool.eq_iff_iff]
  simp
theorem ok_is_spot (T : Tx P w K mg) : FnOk P w K mg base CX0 2 T.a_is_spot T.f_is_spot ["value", "spots"] (spD 2 W_is_spot K) := by
  refine pd_fn T.F_is_spot sc_is_spot (fun cdv A outer s H E hr => ⟨_, (pdss_cons (pds_if (pdt_w (pdw_or (pdt_not (pdt_val (pd_callB call_isi sc_isi (by rfl) T.n_isinstance (by decide +kernel) (pda_cons (pd_name 0) (pda_cons (pd_bltn (v := .ty "tuple") (d := .ty "tuple") (by rfl) T.n_tuple (by decide +kernel) rfl (fun _ _ => .ty _)) pda_nil))))) (pdw_or1 (pdt_cmp (op_neD hr.units) sr_ne (pd_callB call_len_seq sc_len (by rfl) T.n_len (by decide +kernel) (pda_cons (pd_name 0) pda_nil)) pd_int (nomark _))))) (pdss_one (pds_ret pd_bl)) pdss_nil)
      (pdss_one (pds_ret (pd_and (pd_call (ok_is_integer T) (hr.mono (by decide)) (by rfl) T.g_is_integer T.F_is_integer.kp T.b_is_integer (pda_cons (pd_ix ix_tup sr_ixT (pd_name 0) pd_int) pda_nil)) (pd_and (pd_call (ok_is_integer T) (hr.mono (by decide)) (by rfl) T.g_is_integer T.F_is_integer.kp T.b_is_integer (pda_cons (pd_ix ix_tup sr_ixT (pd_name 0) pd_int) pda_nil)) (pd_one (pd_cmp (op_inS' hr.units) sr_inS (pd_name 0) (pd_name 1) (by rfl)))))))), fun ds M Q hl h => ?_⟩)
  obtain ⟨d, t, e, sp, rfl, hse, ht, hx, q⟩ := h
  have hd := dty (K := K) ht
  cases d <;> simp only [tyN, Option.some.injEq, reduceCtorEq] at ht <;> subst ht
  case tup xs =>
    have hx := hx xs rfl
    refine ⟨_, rfl, _, _, _, _, _, true, rfl, hd, .ty "tuple", kit_ty (by decide +kernel), true, rfl, ?_⟩
    refine ⟨_, rfl, xs, .inr rfl, rfl, rfl, ?_⟩
    rw [eqD_int]
    by_cases h2 : (xs.length : Int) = 2
    · rw [decide_eq_true h2]
      obtain ⟨a, b, rfl⟩ : ∃ a b, xs = [a, b] := by
        match xs, h2 with
        | [a, b], _ => exact ⟨a, b, rfl⟩
        | [], h => cases h
        | [_], h => cases h
        | _ :: _ :: _ :: _, h => simp at h; omega
      obtain ⟨ta, ha⟩ := hx a List.mem_cons_self
      obtain ⟨tb, hb⟩ := hx b (List.mem_cons_of_mem _ List.mem_cons_self)
      refine ⟨false, rfl, ?_⟩
      refine ⟨_, rfl, [a, b], 0, a, rfl, rfl, ⟨by decide, rfl⟩, rfl, a, ta, rfl, ha, isI a, rfl, ?_⟩
      cases hIa : isI a with
      | false =>
        have e : spotB sp (.tup [a, b]) = false := by cases a <;> first | rfl | cases hIa
        rw [e] at q
        exact q
      | true =>
        refine ⟨_, rfl, [a, b], 1, b, rfl, rfl, ⟨by decide, rfl⟩, rfl, b, tb, rfl, hb, isI b, rfl, ?_⟩
        cases hIb : isI b with
        | false =>
          have e : spotB sp (.tup [a, b]) = false := by cases a <;> cases b <;> first | rfl | cases hIb
          rw [e] at q
          exact q
        | true =>
          cases a <;> first | cases hIa | skip
          cases b <;> first | cases hIb | skip
          rename_i i j
          refine ⟨_, rfl, _, rfl, sp.map tI, hse, rfl, okD_seqT hse, (by show 1 ≤ 60; decide), ?_⟩
          rw [any_spot]
          exact q
    · rw [decide_eq_false h2]
      have e : spotB sp (.tup xs) = false := spotB_len fun z => h2 (by rw [z]; rfl)
      rw [e] at q
      exact ⟨true, rfl, q⟩
  all_goals
    refine ⟨_, rfl, _, _, _, _, _, false, rfl, hd, .ty "tuple", kit_ty (by decide +kernel), false, rfl, ?_⟩
    exact q
def TyI (d : D) : Prop := (∃ t, tyN d = some t) ∧ ∀ xs, itemsD d = some xs → xs.length ≤ 1000 ∧ ∀ x ∈ xs, ∃ t, tyN x = some t
/-- is_data -/
def dataB (p : Int) (n : Nat) (d : D) : Bool := match itemsD d with | some xs => decide (xs.length = n) && xs.all (btwB 0 (p - 1)) | none => false
def W_is_data : DC := fun ds M Q => ∃ (p g : Int) (n : Nat) (d : D), ds = [.int p, .int n, d] ∧ gsz p = some g ∧ 1 ≤ n ∧ (n : Int) ≤ g ∧ TyI d ∧ Q (.bl (dataB p n d)) M
theorem ok_is_data (T : Tx P w K mg) : FnOk P w K mg base CX0 4 T.a_is_data T.f_is_data ["prime", "size", "value"] (spD 3 W_is_data K) := by
  refine pd_fn T.F_is_data sc_is_data (fun cdv A outer s H E hr => ⟨_, (pdss_one (pds_ret (pd_and (pd_call (ok_is_size T) (hr.mono (by decide)) (by rfl) T.g_is_size T.F_is_size.kp T.b_is_size (pda_cons (pd_name 0) (pda_cons (pd_name 1) pda_nil))) (pd_and (pd_call (ok_has_items T) (hr.mono (by decide)) (by rfl) T.g_has_items T.F_has_items.kp T.b_has_items (pda_cons (pd_name 2) (pda_cons (pd_name 1) (pda_cons (pd_name 1) pda_nil)))) (pd_one (pd_call (ok_all_between T) (hr.mono (by decide)) (by rfl) T.g_all_between T.F_all_between.kp T.b_all_between (pda_cons (pd_name 2) (pda_cons pd_int (pda_cons (pd_op op_sub sr_I0i (pd_name 0) pd_int) pda_nil))))))))), fun ds M Q hl h => ?_⟩)
  obtain ⟨p, g, n, d, rfl, hg, h1, h2, ⟨⟨t, ht⟩, hx⟩, q⟩ := h
  have hsl : sizeLine = 16777216 := by decide
  refine ⟨_, rfl, _, rfl, rfl, p, g, n, rfl, hg, true, by rw [decide_eq_true (by omega), decide_eq_true h2]; rfl, ?_⟩
  refine ⟨d, rfl, _, rfl, _, rfl, rfl, d, t, n, n, rfl, ht, hasB n n d, rfl, ?_⟩
  rcases seq_or (K := K) ht with ⟨xs, hxs, hk, hb⟩ | ⟨hk, hb⟩
  · obtain ⟨hz, hty⟩ := hx xs (isSeq_items hxs)
    have e1 : hasB n n d = decide (xs.length = n) := by rw [hb, Bool.eq_iff_iff]; simp; omega
    have e2 : dataB p n d = (decide (xs.length = n) && xs.all (btwB 0 (p - 1))) := by
      unfold dataB
      rw [isSeq_items hxs]
    rw [e1]
    rw [e2] at q
    by_cases hle : xs.length = n
    · rw [decide_eq_true hle] at q ⊢
      exact ⟨d, rfl, .int p, rfl, _, _, rfl, rfl, rfl, d, xs, 0, p - 1, rfl, hxs, hty, by omega, q⟩
    · rw [decide_eq_false hle] at q ⊢
      exact q
  · have e2 : dataB p n d = false := by
      cases d
      case lst xs => have := hb 0 (xs.length : Int); simp [hasB] at this
      case tup xs => have := hb 0 (xs.length : Int); simp [hasB] at this
      all_goals rfl
    rw [hb]
    rw [e2] at q
    exact q
end
end X
end K11
set_option Elab.async false
set_option linter.all false
set_option maxRecDepth 100000
namespace Pd
open PySem PySem.Spec PyProof.Rows L2
end Pd
set_option Elab.async false
set_option linter.all false
set_option maxRecDepth 100000
set_option maxHeartbeats 1000000
namespace Pd
open PySem PySem.Spec PyProof.Rows L2
end Pd
set_option Elab.async false
set_option linter.all false
set_option maxRecDepth 100000
set_option maxHeartbeats 1000000
namespace Pd
open PySem PySem.Spec PyProof.Rows L2
end Pd
set_option Elab.async false
set_option linter.all false
set_option maxRecDepth 100000
set_option maxHeartbeats 1000000
namespace Pd
open PySem PySem.Spec PyProof.Rows L2
def TupsIn (H : Hp) (ts xs : List V) : Prop := ∀ (j : Nat) (t : V), ts[j]? = some t → ∃ T x, t = .ref T ∧ H T = some (.tup [x]) ∧ xs[j]? = some x
theorem TupsIn.up {H H' : Hp} {ts xs : List V} (h : TupsIn H ts xs) (k : ∀ c xs, H c = some (.tup xs) → H' c = some (.tup xs)) : TupsIn H' ts xs := fun j t e =>
  let ⟨T, x, h1, h2, h3⟩ := h j t e
  ⟨T, x, h1, k _ _ h2, h3⟩
def fp1 (z TI TO j : Addr) : List Addr := [z, TI, TO, j]
end Pd
set_option Elab.async false
set_option linter.all false
set_option maxRecDepth 100000
set_option maxHeartbeats 1000000
namespace Pd
open PySem PySem.Spec PyProof.Rows L2
section
variable {X : Cx} {e : Expr} {pos p pos2 p2 p3 : Pos}
@[simp] def dZipS (t : DE) : DE := fun ρ M P => t ρ M fun d M1 => ∃ cols : List D, d = .lst cols ∧ ((∃ xs, cols = [.lst xs] ∧ P (.lst (xs.map fun x => .tup [x])) M1) ∨ ∃ xs ys, cols = [.lst xs, .lst ys] ∧ P (.lst (pairs xs ys)) M1)
end
end Pd
set_option Elab.async false
set_option linter.all false
set_option maxRecDepth 100000
set_option maxHeartbeats 1000000
namespace Pd
open PySem PySem.Spec PyProof.Rows L2
end Pd
set_option Elab.async false
set_option linter.all false
set_option maxRecDepth 100000
set_option maxHeartbeats 3200000
namespace Pd
open PySem PySem.Spec PyProof.Rows L2
def dcRunI (g : DG) (tk tv : DE) (ρ : Rho) (ks : List (List Key)) (P : D → Ms → Prop) : List D → List D → Ms → Prop
  | [], acc, M => P (.dit ks acc) M
  | d :: r, acc, M => ∀ q : Addr, g (.tup [.ob q, d]) ρ fun ρ' => tk ρ' M fun kd M1 => kd = .ob q ∧ tv ρ' M1 fun y M2 => dcRunI g tk tv ρ ks P r (acc ++ [y]) M2
@[simp] def dDcI (td : DE) (g : DG) (tk tv : DE) (vs : List Nat) : DE := fun ρ M P => td ρ M fun d M1 => ∃ (nss : List (List Int)) (ds : List D), d = .dit (nss.map kI) ds ∧ nss.length = ds.length ∧ (nss.map kI).Nodup ∧ ds.length ≤ sizeLine ∧ dcRunI g tk tv (wipeR ρ vs) (nss.map kI) P ds [] M1
end Pd
set_option Elab.async false
set_option linter.all false
set_option maxRecDepth 100000
set_option maxHeartbeats 1000000
namespace Pd
open PySem PySem.Spec PyProof.Rows L2
end Pd
set_option Elab.async false
set_option linter.all false
set_option maxRecDepth 100000
set_option maxHeartbeats 1000000
namespace Pd
open PySem PySem.Spec PyProof.Rows L2
def NumsIn (H : Hp) (ts xs : List V) : Prop := ∀ (j : Nat) (t : V), ts[j]? = some t → ∃ T x, t = .ref T ∧ H T = some (.tup [.int (j : Nat), x]) ∧ xs[j]? = some x
theorem NumsIn.up {H H' : Hp} {ts xs : List V} (h : NumsIn H ts xs) (k : ∀ c xs, H c = some (.tup xs) → H' c = some (.tup xs)) : NumsIn H' ts xs := fun j t e =>
  let ⟨T, x, h1, h2, h3⟩ := h j t e
  ⟨T, x, h1, k _ _ h2, h3⟩
end Pd
set_option Elab.async false
set_option linter.all false
set_option maxRecDepth 100000
set_option maxHeartbeats 1000000
namespace Pd
open PySem PySem.Spec PyProof.Rows L2
section
variable {X : Cx} {e : Expr} {pos p pos2 p2 : Pos} {tl : DA}
@[simp] def dEnL (tl : DA) : DE := fun ρ M P => tl ρ M fun ds M1 => ∃ d xs, ds = [d] ∧ isSeq d xs ∧ P (.lst (numd 0 xs)) M1
end
end Pd
set_option Elab.async false
set_option linter.all false
set_option maxRecDepth 100000
set_option maxHeartbeats 1000000
namespace Pd
open PySem PySem.Spec PyProof.Rows L2
section
variable {X : Cx} {e o a : Expr} {es : List Expr} {t td te : DE} {tl : DA} {p pos p2 pos2 : Pos}
@[simp] def dLIdxI (td te : DE) : DE := fun ρ M P => td ρ M fun d M1 => ∃ ns : List Int, d = .lst (dI ns) ∧ te ρ M1 fun y M2 => ∃ k : Int, y = .int k ∧ k ∈ ns ∧ P (.int (ns.idxOf k)) M2
@[simp] def oMinL : DC := fun xs M P => ∃ ns : List Int, xs = [.lst (dI ns)] ∧ 0 < ns.length ∧ ∀ m, m ∈ ns → (∀ y, y ∈ ns → m ≤ y) → P (.int m) M
@[simp] def dLstR (t : DE) : DE := fun ρ M P => t ρ M fun x M1 => ∃ n : Nat, x = .int n ∧ n ≤ 1000 ∧ P (.lst (dI ((List.range n).map fun (i : Nat) => (i : Int)))) M1
/-- f(e, ..), the last parameter's default is () -/
@[simp] def dCallT (n : Nat) (W : DC) (tl : DA) : DE := fun ρ M P => tl ρ M fun ds M1 => ds.length + 1 = n ∧ W (ds ++ [.tup []]) M1 P
end
end Pd
set_option Elab.async false
set_option linter.all false
set_option maxRecDepth 100000
set_option maxHeartbeats 1000000
namespace Pd
open PySem PySem.W PySem.Calls PySem.Spec PyProof.Rows SeqAt
end Pd
set_option Elab.async false
set_option linter.all false
set_option maxRecDepth 100000
set_option maxHeartbeats 1000000
namespace Pd
open PySem PySem.W PySem.Calls PySem.Spec PyProof.Rows SeqAt
end Pd
set_option Elab.async false
set_option linter.all false
set_option maxRecDepth 100000
set_option maxHeartbeats 1000000
namespace Pd
open PySem PySem.Spec PyProof.Rows L2
def tupP (ns : List Int) : PyData := .tuple (ns.map PyData.int)
theorem alike_ints : ∀ xs ys : List Int, PySem.W.alikeAll (xs.map PyData.int) (ys.map PyData.int) = true
  | [], [] => by simp [PySem.W.alikeAll]
  | [], _ :: _ => by simp [PySem.W.alikeAll]
  | _ :: _, [] => by simp [PySem.W.alikeAll]
  | x :: xs, y :: ys => by
    have := alike_ints xs ys
    simp [PySem.W.alikeAll, PySem.W.alike, this]
end Pd
set_option Elab.async false
set_option linter.all false
set_option maxRecDepth 100000
set_option maxHeartbeats 1000000
namespace Pd
open PySem PySem.Spec PyProof.Rows L2
end Pd
set_option Elab.async false
set_option linter.all false
set_option maxRecDepth 100000
set_option maxHeartbeats 1000000
namespace Pd
open PySem PySem.Spec PyProof.Rows L2
section
variable {K : PySem.W.Frag}
/-- sorted(xs), xs a list of tuples of ints that begins with () -/
@[simp] def oSortE : DC := fun ds M P => ∃ rows : List (List Int), ds = [.lst (rows.map tI)] ∧ rows[0]? = some [] ∧ P (.lst ((rows.mergeSort (PySem.W.dataLe false tupP)).map tI)) M
/-- sorted(xs, key=len), xs a list of tuples of ints -/
@[simp] def oSortLen : DC := fun ds M P => ∃ rows : List (List Int), ds = [.lst (rows.map tI)] ∧ P (.lst ((rows.mergeSort (PySem.W.dataLe false fun r => .int r.length)).map tI)) M
end
end Pd
set_option Elab.async false
set_option linter.all false
set_option maxRecDepth 100000
set_option maxHeartbeats 1000000
namespace Pd
open PySem PySem.Spec PyProof.Rows L2
@[simp] def sKeep (i : Nat) (tl : DA) (t : DS) : DS := fun De ρ M => tl ρ M fun ds0 M1 => t { nx := cutE M1.length De.nx, rt := cutR M1.length De.rt, bk := cutE M1.length De.bk, ct := cutE M1.length De.ct } (ρ.set i (some (.mu M1.length))) (M1 ++ [.lst ds0])
/-- tuple(x), x a list that is known or changeable -/
@[simp] def oTupleM : DC := fun xs M P => ∃ d ds, xs = [d] ∧ (isSeq d ds ∨ ∃ k, d = .mu k ∧ M[k]? = some (.lst ds)) ∧ P (.tup ds) M
def forRunX (g : DG) (body : SX) (De : DEnds) (Xd : XD) : List D → Rho → Ms → Prop
  | [], ρ, M => De.nx ρ M
  | d :: r, ρ, M => g d ρ fun ρ' => body { De with nx := fun ρ2 M2 => forRunX g body De Xd r ρ2 M2, ct := fun ρ2 M2 => forRunX g body De Xd r ρ2 M2, bk := De.nx } Xd ρ' M
@[simp] def zFor (it : DA) (g : DG) (body : SX) : SX := fun D Xd ρ M => it ρ M fun ds M1 => forRunX g body D Xd ds ρ M1
/-- rows that can be sorted -/
structure SortOk (rows : List D) : Prop where
  pl : ∀ d ∈ rows, plain d = true
  al : PySem.W.AllAlike (rows.map toP)
  so : PySem.W.Sortable (rows.map toP)
  dp : ∀ d ∈ rows, (toP d).depth ≤ 60
def sortD (rows : List D) : List D := rows.mergeSort (PySem.W.dataLe false toP)
@[simp] def oSortD : DC := fun ds M P => ∃ rows : List D, ds = [.lst rows] ∧ SortOk rows ∧ P (.lst (sortD rows)) M
end Pd
set_option Elab.async false
set_option linter.all false
set_option maxRecDepth 100000
set_option maxHeartbeats 2000000
namespace Pd
open PySem PySem.Spec PyProof.Rows L2 PySem.HandSPX
abbrev DH := List (Str × D) → DE
abbrev DHA := List (Str × D) → DA
/-- the fields of what was caught stand at dx -/
structure Caught (K : PySem.W.Frag) (as : List Addr) (L : Hp) (dx : Addr) (gs : List (Str × D)) : Prop where
  ex : ∃ fs, L dx = some (.xd fs) ∧ RpF K as L fs gs
theorem Caught.mono {K : PySem.W.Frag} {as : List Addr} {L L' : Hp} {dx : Addr} {gs : List (Str × D)} (e : Ex L L') (c : Caught K as L dx gs) : Caught K as L' dx gs :=
  let ⟨fs, h1, h2⟩ := c.ex; ⟨fs, e _ _ h1, h2.mono e (Pre.refl _)⟩
section
variable {X : Cx} {C : Addr} {i : Nat} {e : Expr} {es : List Expr} {t : DH} {tl : DHA} {pos p : Pos}
@[simp] def hOf (t : DE) : DH := fun _ => t
@[simp] def hFld (f : Str) : DH := fun gs ρ M P => ∃ y, gs.lookup f = some y ∧ P y M
@[simp] def hNil : DHA := fun _ _ M P => P [] M
@[simp] def hCons (ta : DH) (tl : DHA) : DHA := fun gs ρ M P => ta gs ρ M fun x M1 => tl gs ρ M1 fun xs M2 => P (x :: xs) M2
@[simp] def hTup (tl : DHA) : DH := fun gs ρ M P => tl gs ρ M fun ds M1 => ds.length ≤ sizeLine ∧ P (.tup ds) M1
@[simp] def hLst (tl : DHA) : DH := fun gs ρ M P => tl gs ρ M fun ds M1 => ds.length ≤ sizeLine ∧ P (.lst ds) M1
end
/-- which clause takes it, and what it returns -/
def PickR (K : PySem.W.Frag) (n : Nat) (rt : D → Ms → Prop) : List (Addr × Nat × DH) → Addr → List (Str × D) → Ms → Prop
  | [], _, _, _ => False
  | (C', i, t) :: r, C, gs, M => ∃ b, PySem.W.exmOne K (.ref C) (.ref C') = some b ∧ (b = true → C = C' ∧ t gs (List.replicate n none) M rt) ∧ (b = false → PickR K n rt r C gs M)
theorem Takes.mono {X : Cx} {W W' : WX} (tk : Takes X W) (h : ∀ cls d σ H, W' cls d σ H → W cls d σ H) : Takes X W' := fun u s' ⟨a, B, sI, pins, σ, H, cls, d, e, I, nb, up, sky, na, os, ag, w⟩ =>
  tk u s' ⟨a, B, sI, pins, σ, H, cls, d, e, I, nb, up, sky, na, os, ag, h _ _ _ _ w⟩
@[simp] def sTry (K : PySem.W.Frag) (n : Nat) (l : List (Addr × Nat × DH)) (t : SX) : DS := fun De ρ M => t De (fun C gs M' => PickR K n De.rt l C gs M') ρ M
end Pd
set_option Elab.async false
set_option linter.all false
set_option maxRecDepth 100000
set_option maxHeartbeats 1000000
namespace Pd
open PySem PySem.Spec PyProof.Rows L2
section
variable {X : Cx} {E : XK} {a e : Expr} {ta : DE} {tx : DX} {pos : Pos}
@[simp] def xTup2 (ta : DE) (tx : DX) : DX := fun ρ M P Xd => ta ρ M fun x M1 => tx ρ M1 (fun y M2 => P (.tup [x, y]) M2) Xd
end
end Pd
set_option Elab.async false
set_option linter.all false
set_option maxRecDepth 100000
set_option maxHeartbeats 2000000
namespace Pd
open PySem PySem.Spec PyProof.Rows L2
section
variable {X : Cx}
@[simp] def iOwnD (C : Addr) (f : Str) (t : DE) : DA := fun ρ M P => t ρ M fun d M1 => ∃ gs ds, d = .ins C gs ∧ gs.lookup f = some (.tup ds) ∧ P ds M1
end
end Pd
set_option Elab.async false
set_option linter.all false
set_option maxRecDepth 100000
set_option maxHeartbeats 2000000
namespace Pd
open PySem PySem.Spec PyProof.Rows L2
abbrev DAM := Rho → Ms → ((Ms → Prop) → List D → Ms → Prop) → Prop
def lcRunM (Φ : Ms → Prop) (g : DG) (tt : DT) (te : DE) (ρ : Rho) (P : D → Ms → Prop) : List D → List D → Ms → Prop
  | [], acc, M => P (.lst acc) M
  | d :: r, acc, M => g d ρ fun ρ' => tt ρ' M fun b M1 => if b = true then te ρ' M1 fun y M2 => acc.length < sizeLine ∧ Φ M2 ∧ lcRunM Φ g tt te ρ P r (acc ++ [y]) M2 else Φ M1 ∧ lcRunM Φ g tt te ρ P r acc M1
@[simp] def dLcM (it : DAM) (g : DG) (tt : DT) (te : DE) (vs : List Nat) : DE := fun ρ M P => it ρ M fun Φ ds M1 => lcRunM Φ g tt te (wipeR ρ vs) P ds [] M1
section
variable {X : Cx}
@[simp] def iMu (i : Nat) : DAM := fun ρ M P => ∃ (k : Nat) (ds : List D), ρ[i]? = some (some (.mu k)) ∧ M[k]? = some (.lst ds) ∧ P (fun M => M[k]? = some (.lst ds)) ds M
end
def rNinS (K : PySem.W.Frag) : R2 := fun x y H Q => ∃ d ds, Dp K H x d ∧ (Dp K H y (.list ds) ∧ SeqAt.shaped (.list ds) = true ∨ Dp K H y (.tuple ds) ∧ SeqAt.shaped (.tuple ds) = true) ∧ SeqAt.shaped d = true ∧ d.depth ≤ 60 ∧ Q (.bl (!ds.any fun z => PyData.eqv z d)) H
theorem op_ninS {X : Cx} (hu : X.A.units + 64 < cLine) : OpR X (compareOp .NotIn) (rNinS X.K) := by
  intro pins s σ H x y v u Q I r1 r2 h
  obtain ⟨d, ds, h1, h2, h3, hd, q⟩ := h
  obtain ⟨bs, rx⟩ := Dp.reads I d x v h1 r1
  rcases h2 with ⟨h2, h4⟩ | ⟨h2, h4⟩
  · obtain ⟨as, ry⟩ := Dp.reads I _ y u h2 r2
    have hc := SeqAt.canLay_of_shaped h4
    refine SeqAt.notIn_list_reads ry rx (by simpa [PyData.canLay0] using hc) (SeqAt.canLay_of_shaped h3) (by omega) ⟨.bl _, H, I, rfl, q⟩
  · obtain ⟨as, ry⟩ := Dp.reads I _ y u h2 r2
    have hc := SeqAt.canLay_of_shaped h4
    refine SeqAt.notIn_tuple_reads ry rx (by simpa [PyData.canLay0] using hc) (SeqAt.canLay_of_shaped h3) (by omega) ⟨.bl _, H, I, rfl, q⟩
@[simp] def oNinS : D2 := fun x y M P => ∃ ds, isSeq y ds ∧ okD x = true ∧ okD y = true ∧ (toP x).depth ≤ 60 ∧ P (.bl (!ds.any fun z => eqD z x)) M
theorem sr_ninS {K : PySem.W.Frag} : SimR K (rNinS K) oNinS := by
  intro as L H M x y d e P Q A r1 r2 ⟨ds, h1, h2, h3, h4, p⟩ q
  have e1 := Bool.and_eq_true_iff.mp h2
  have e2 := Bool.and_eq_true_iff.mp h3
  have d1 := r1.dp A.low e1.1
  have d2 := r2.dp A.low e2.1
  have : (toPA ds).any (fun z => PyData.eqv z (toP d)) = ds.any fun z => eqD z d := by rw [toPA_map, List.any_map]; rfl
  rcases h1 with rfl | rfl
  · refine ⟨toP d, toPA ds, d1, .inl ⟨d2, e2.2⟩, e1.2, h4, ?_⟩
    rw [this]
    exact q _ _ L H M .refl A p (.bl _)
  · refine ⟨toP d, toPA ds, d1, .inr ⟨d2, e2.2⟩, e1.2, h4, ?_⟩
    rw [this]
    exact q _ _ L H M .refl A p (.bl _)
end Pd
set_option Elab.async false
set_option linter.all false
set_option maxRecDepth 100000
set_option maxHeartbeats 1000000
namespace Pd
open PySem PySem.Spec PyProof.Rows L2 PySem.HandSPX
mutual
def noL : PyData → Bool
  | .list _ => false
  | .dict _ => false
  | .tuple xs => noLA xs
  | _ => true
def noLA : List PyData → Bool
  | [] => true
  | x :: xs => noL x && noLA xs
end
section
variable {P : Program} {w : World} {K : PySem.W.Frag} {mg : Str → Option Value} {base : Heap} {A : Around} {outer : List Env} {s : Shared} {H : Hp}
def dlen : D → Nat
  | .tup ds => ds.length
  | _ => 0
/-- what the lambda tells of a row -/
def keyL (d : D) : PyData := .tuple [.int (dlen d), toP d]
structure KeyOk (rows : List D) : Prop where
  tup : ∀ d ∈ rows, ∃ ds, d = .tup ds
  pl : ∀ d ∈ rows, plain d = true
  no : ∀ d ∈ rows, noL (toP d) = true
  al : PySem.W.AllAlike (rows.map keyL)
  dp : ∀ d ∈ rows, (toP d).depth ≤ 60
def sortK (rows : List D) : List D := rows.mergeSort (PySem.W.dataLe false keyL)
end
@[simp] def dSortK (P : Addr) (lq : Str) (tl : DA) : DE := fun ρ M Q => tl ρ M fun ds M1 => (∃ j : Nat, M1[j]? = some (MO.tab P lq)) ∧ ∃ rows : List D, ds = [.lst rows] ∧ KeyOk rows ∧ Q (.lst (sortK rows)) M1
end Pd
set_option Elab.async false
set_option linter.all false
set_option maxRecDepth 100000
set_option maxHeartbeats 1000000
namespace Pd
open PySem PySem.Spec PyProof.Rows L2
@[simp] def oLenM : DC := fun xs M P => ∃ (k : Nat) (es : List D), xs = [.mu k] ∧ M[k]? = some (.lst es) ∧ P (.int es.length) M
end Pd
set_option Elab.async false
set_option linter.all false
set_option maxRecDepth 100000
set_option maxHeartbeats 1000000
namespace Pd
open PySem PySem.Spec PyProof.Rows L2
theorem At.dic {K : PySem.W.Frag} {as : List Addr} {M : Ms} {L H : Hp} {k : Nat} {a : Addr} {ks : List Key} {ds : List D} (A : At K as M L H) (h : as[k]? = some a) (hm : M[k]? = some (.dic ks ds)) : ∃ vs, H a = some (.dK (ks.zip vs)) ∧ ks.length = vs.length ∧ RpA K as L vs ds := by
  obtain ⟨_, o, h1, h2, _⟩ := A.mo k a _ h hm
  cases h2 with
  | dic l r => exact ⟨_, h1, l, r⟩
/-- what d[k] = v makes of a dict -/
def hasK (ks : List Key) (k : Key) : Bool := ks.any fun j => decide (j = k)
def putM (ks : List Key) (ds : List D) (k : Key) (v : D) : MO := if hasK ks k = true then .dic ks (List.zipWith (fun j x => if j = k then v else x) ks ds) else .dic (ks ++ [k]) (ds ++ [v])
@[simp] def sBuildD (i : Nat) (t rest : DS) : DS := fun De ρ M => t { nx := (fun ρ' M' => ∃ M3 ks ds, M' = M3 ++ [MO.dic ks ds] ∧ M3.length = M.length ∧ apartM M.length M3 = true ∧ apartA M.length ds = true ∧ (ρ'[i]? = some (some (D.mu M.length))) ∧ rest De ((clean M.length ρ').set i (some (.dic ks ds))) M3), rt := cutR M.length De.rt, bk := cutE M.length De.bk, ct := cutE M.length De.ct } (ρ.set i (some (.mu M.length))) (M ++ [.dic [] []])
@[simp] def sSetD (to ti te : DE) : DS := fun De ρ M => te ρ M fun v M1 => to ρ M1 fun x M2 => ti ρ M2 fun y M3 => ∃ (k : Nat) (ks : List Key) (ds : List D) (j : Key), x = .mu k ∧ y = keyD j ∧ M3[k]? = some (.dic ks ds) ∧ ks.length < sizeLine ∧ De.nx ρ (M3.set k (putM ks ds j v))
@[simp] def dGetM (td ty tx : DE) : DE := fun ρ M P => td ρ M fun d M1 => ∃ k : Nat, d = .mu k ∧ (∃ ks ds, M1[k]? = some (.dic ks ds)) ∧ ty ρ M1 fun y M2 => tx ρ M2 fun z M3 => ∃ ks ds j, M3[k]? = some (.dic ks ds) ∧ y = keyD j ∧ P ((dicGet ks ds j).getD z) M3
end Pd
set_option Elab.async false
set_option linter.all false
set_option maxRecDepth 100000
set_option maxHeartbeats 2000000
namespace Pd
open PySem PySem.Spec PyProof.Rows L2
@[simp] def oTupOwn (C : Addr) (f : Str) (WL : DC) : DC := fun xs M P => ∃ gs ds, xs = [.ins C gs] ∧ gs.lookup f = some (.tup ds) ∧ WL xs M fun z M' => ∃ i : Int, z = .int i ∧ (0 ≤ i ∧ i < 16777216) ∧ P (.tup ds) M'
end Pd
set_option Elab.async false
set_option linter.all false
set_option maxRecDepth 100000
set_option maxHeartbeats 1000000
namespace Pd
open PySem PySem.Spec PyProof.Rows L2
@[simp] def dGetK (td ty : DE) : DE := fun ρ M P => td ρ M fun d M1 => ∃ ks ds, d = .dic ks ds ∧ ty ρ M1 fun y M2 => ∃ j v, y = keyD j ∧ dicGet ks ds j = some v ∧ P v M2
end Pd
set_option Elab.async false
set_option linter.all false
set_option maxRecDepth 100000
set_option maxHeartbeats 1000000
namespace Pd
open PySem PySem.Spec PyProof.Rows L2
@[simp] def sKeepR (i : Nat) (tl : DA) (t : DS) : DS := fun De ρ M => tl ρ M fun ds0 M1 => t { nx := cutE M1.length De.nx, rt := (fun d M' => ∃ M3 ds, M' = M3 ++ [MO.lst ds] ∧ M3.length = M1.length ∧ apartM M1.length M3 = true ∧ apartA M1.length ds = true ∧ d = .mu M1.length ∧ De.rt (.lst ds) M3), bk := cutE M1.length De.bk, ct := cutE M1.length De.ct } (ρ.set i (some (.mu M1.length))) (M1 ++ [.lst ds0])
end Pd
set_option Elab.async false
set_option linter.all false
set_option maxRecDepth 100000
set_option maxHeartbeats 1000000
namespace Pd
open PySem PySem.Spec PyProof PyProof.Rows L2
@[simp] def oRepLL : D2 := fun x y M P => ∃ (ds : List D) (k : Int), x = .lst ds ∧ y = .int k ∧ -(2 ^ 63) ≤ k ∧ k < 2 ^ 63 ∧ ds.length * k.toNat ≤ sizeLine ∧ P (.lst (List.replicate k.toNat ds).flatten) M
end Pd
set_option Elab.async false
set_option linter.all false
set_option maxRecDepth 100000
set_option maxHeartbeats 1000000
namespace Pd
open PySem PySem.Spec PyProof PyProof.Rows L2
section
variable {X : Cx} {pos : Pos}
@[simp] def gTuL (n : Nat) (t : DGs) : DG := fun d ρ P => ∃ ds, d = .lst ds ∧ ds.length = n ∧ t ds ρ P
end
end Pd
set_option Elab.async false
set_option linter.all false
set_option maxRecDepth 100000
set_option maxHeartbeats 1000000
namespace Pd
open PySem PySem.Spec PyProof.Rows L2
theorem RpA.eraseIdx {K : PySem.W.Frag} {as : List Addr} {L : Hp} : ∀ {xs : List V} {ds : List D} (i : Nat), RpA K as L xs ds → RpA K as L (xs.eraseIdx i) (ds.eraseIdx i)
  | _, _, _, .nil => .nil
  | _, _, 0, .cons _ t => t
  | _, _, i + 1, .cons r t => .cons r (RpA.eraseIdx i t)
@[simp] def dPopA (i : Nat) (te : DE) : DE := fun ρ M P => ∃ k, ρ[i]? = some (some (.mu k)) ∧ (∃ ds, M[k]? = some (.lst ds)) ∧ te ρ M fun d M1 => ∃ (ds : List D) (n : Nat) (y : D), d = .int n ∧ M1[k]? = some (.lst ds) ∧ (n : Int) < 2 ^ 63 ∧ ds[n]? = some y ∧ P y (M1.set k (.lst (ds.eraseIdx n)))
@[simp] def lLstR (t : DE) : DA := fun ρ M P => t ρ M fun x M1 => ∃ n : Nat, x = .int n ∧ n ≤ 1000 ∧ P (dI ((List.range n).map fun (i : Nat) => (i : Int))) M1
@[simp] def sBuild2 (i j : Nat) (tl : DA) (t rest : DS) : DS := fun De ρ M => tl ρ M fun ds0 M1 => t { nx := (fun ρ' M' => ∃ M4 ds, M' = M4 ++ [MO.lst ds] ∧ M4.length = (M1 ++ [MO.lst ds0]).length ∧ apartM (M1 ++ [MO.lst ds0]).length M4 = true ∧ apartA (M1 ++ [MO.lst ds0]).length ds = true ∧ (ρ'[j]? = some (some (D.mu (M1 ++ [MO.lst ds0]).length))) ∧ cutE M1.length (rest De) ((clean (M1 ++ [MO.lst ds0]).length ρ').set j (some (.lst ds))) M4), rt := cutR (M1 ++ [MO.lst ds0]).length (cutR M1.length De.rt), bk := cutE (M1 ++ [MO.lst ds0]).length (cutE M1.length De.bk), ct := cutE (M1 ++ [MO.lst ds0]).length (cutE M1.length De.ct) } ((ρ.set i (some (.mu M1.length))).set j (some (.mu (M1 ++ [MO.lst ds0]).length))) (M1 ++ [.lst ds0] ++ [.lst []])
end Pd
set_option Elab.async false
set_option linter.all false
namespace Pd
open PySem PySem.Spec PyProof.Rows L2
end Pd
set_option Elab.async false
set_option linter.all false
namespace Pd
open PySem PySem.Spec PyProof.Rows L2
end Pd
set_option Elab.async false
set_option linter.all false
namespace Pd
open PySem PySem.Spec PyProof.Rows L2
@[simp] def oNeM : D2 := fun x y M P => ∃ k ds, x = .mu k ∧ M[k]? = some (.lst ds) ∧ okD (.lst ds) = true ∧ okD y = true ∧ P (.bl (!eqD (.lst ds) y)) M
@[simp] def oEqM : D2 := fun x y M P => ∃ k ds, x = .mu k ∧ M[k]? = some (.lst ds) ∧ okD (.lst ds) = true ∧ okD y = true ∧ P (.bl (eqD (.lst ds) y)) M
end Pd
set_option Elab.async false
set_option linter.all false
set_option maxRecDepth 100000
set_option maxHeartbeats 1000000
namespace HT
open PySem PySem.Spec PyProof.Rows L2
section
variable {prog : Program} {w : World} {A : Around} {E : Value → Shared → Prop} {s : Shared}
theorem adjust_back (n : Nat) : Builtin.Slice.sliceAdjust none none (-1) (n : Int) = ((n : Int) - 1, -1) := by
  unfold Builtin.Slice.sliceAdjust
  have h1 : (-1 : Int) < 0 := by decide
  simp only [h1, if_true]
theorem places_back (n : Nat) : Builtin.Slice.slicePlaces ((n : Int) - 1) (-1) (-1) = n := by
  unfold Builtin.Slice.slicePlaces
  have h1 : ¬ ((-1 : Int) > 0) := by decide
  simp only [h1, if_false, show (- -1 : Int) = 1 by decide, Int.ediv_one]
  split <;> omega
theorem sliceApplied_back {sl : Addr} {vl vu vs : Value} {n : Nat} {Q : Int × Int × Nat → Shared → Prop} (hs : s.heap.IsSliceOf sl vl vu vs) (pl : IsPart vl none) (pu : IsPart vu none) (ps : IsPart vs (some (-1)))
    (h : Q ((n : Int) - 1, -1, n) s) : wpAny (model prog w) A (Builtin.Slice.sliceApplied (.ref sl) (pure (n : Int))) Q E s := by
  obtain ⟨os, hos, hcs, hds⟩ := id hs
  unfold Builtin.Slice.sliceApplied Builtin.Slice.sliceFields
  refine wpAny_bind (wpAny_bind (wpAny_field hos hds (x := vl) rfl (wpAny_bind (wpAny_field hos hds (x := vu) rfl (wpAny_bind (wpAny_field hos hds (x := vs) rfl (wpAny_pure ?_)))))))
  refine wpAny_bind (slicePart_ ps ?_)
  show wpAny _ _ (if ((-1 : Int) == 0) = true then _ else _) _ _ s
  rw [if_neg (by decide)]
  refine wpAny_bind (slicePart_ pl (wpAny_bind (slicePart_ pu (wpAny_bind (wpAny_pure ?_)))))
  show wpAny _ _ (match Builtin.Slice.sliceAdjust none none (-1) (n : Int) with | (lo, hi) => pure (lo, (-1 : Int), Builtin.Slice.slicePlaces lo hi (-1))) _ _ s
  rw [adjust_back n]
  show wpAny _ _ (pure ((n : Int) - 1, (-1 : Int), Builtin.Slice.slicePlaces ((n : Int) - 1) (-1) (-1))) _ _ s
  rw [places_back]
  exact wpAny_pure h
theorem pick_back (xs : Array Value) : ((List.range xs.size).filterMap fun (m : Nat) => xs[(((xs.size : Int) - 1) + (m : Int) * (-1)).toNat]?).toArray = xs.toList.reverse.toArray := by
  have h := PySem.W.krv_pick xs
  unfold slicePick at h
  rw [PySem.W.krv_bounds] at h
  have h2 : ((sliceRange ((xs.size : Int) - 1) (-1) (-1)).filterMap (xs[·]?)).toArray = xs.toList.reverse.toArray := h
  rw [← h2, PySem.W.krv_sliceRange, List.filterMap_map]
  congr 2
  funext m
  show xs[_]? = xs[xs.size - 1 - m]?
  congr 1
  omega
theorem getItem_tuple_back {t sl : Addr} {items : Array Value} {vl vu vs : Value} {Q : Value → Shared → Prop} (ht : IsTup s.heap t items) (hs : s.heap.IsSliceOf sl vl vu vs) (pl : IsPart vl none) (pu : IsPart vu none) (ps : IsPart vs (some (-1)))
    (h : Q (.ref s.heap.objs.size) { s with heap := s.heap.push { cls := .type "tuple", data := .seq items.toList.reverse.toArray } })
    (hsz : items.size ≤ sizeLine) : wpAny (model prog w) A (getItem (.ref t) (.ref sl)) Q E s := by
  have htake : sizeOk (.seq items.toList.reverse.toArray) := by
    show items.toList.reverse.toArray.size ≤ sizeLine
    rw [List.size_toArray, List.length_reverse, Array.length_toList]
    exact hsz
  obtain ⟨os, hos, hcs, hds⟩ := id hs
  have hTs : s.TypeIs (.ref sl) "slice" := ⟨os, hos, hcs⟩
  unfold getItem
  try with_reducible refine wpAny_holding ?_
  first | refine wpAny_bind (wpAny_pure ?_) | skip
  refine wpAny_bind (wpAny_sequenceKey ht.typeIs (by decide) ?_)
  refine wpAny_bind (wpAny_callSpecial?_slot (name := Str.ofString "__getitem__") ht.typeIs PyProof.Rows.slot_tuple_getitem
    (wpAny_call_entry PyProof.Rows.slot_tuple_getitem ht.typeIs entry_tuple_getitem ?_ (args_tuple_getitem _ _)))
  show wpAny _ _ (Builtin.Tuple.tupleItemsOf (.ref t) >>= _) _ _ s
  refine wpAny_bind (tupleItemsOf_ ht ?_)
  refine wpAny_bind (wpAny_typeOf hTs ?_)
  rw [if_pos (by decide)]
  refine wpAny_bind (sliceApplied_back hs pl pu ps ?_)
  have hno : ¬ ((((items.size : Int) - 1) == 0 && (-1 : Int) == 1 && items.size == items.size) = true) := by
    intro q
    rw [Bool.and_eq_true, Bool.and_eq_true] at q
    exact absurd q.1.2 (by decide)
  show wpAny _ _ (if (((items.size : Int) - 1) == 0 && (-1 : Int) == 1 && items.size == items.size) = true then _ else _) _ _ s
  rw [if_neg hno, pick_back]
  first
    | exact wpAny_bind (m := Builtin.Tuple.tupleExact _) (wpAny_newObj_type (wpAny_pure ⟨_, rfl, wpAny_pure h⟩) htake)
    | exact wpAny_bind (m := Builtin.Tuple.tupleExact _) (wpAny_newObj_type (wpAny_bind (wpAny_pure (wpAny_pure ⟨_, rfl, wpAny_pure h⟩))) htake)
    | exact wpAny_bind (wpAny_bind (m := Builtin.Tuple.tupleExact _) (wpAny_newObj_type (wpAny_pure (wpAny_pure ⟨_, rfl, wpAny_pure h⟩)) htake))
    | exact wpAny_bind (wpAny_bind (m := Builtin.Tuple.tupleExact _) (wpAny_newObj_type (wpAny_pure ⟨_, rfl, wpAny_pure h⟩) htake))
end
end HT
namespace Pd
open PySem PySem.Spec PyProof.Rows L2
section
variable {X : Cx} {e : Expr} {te : TE} {t : DE}
def tRevT (K : PySem.W.Frag) (te : TE) : TE := fun σ H Q => te σ H fun x H1 => ∃ a xs, x = .ref a ∧ SqT K H1 a xs ∧ ∀ p, H1 p = none → Q (.ref p) (upd H1 p (.tup xs.reverse))
theorem pe_revT {k : Nat} {p1 p2 p3 pos : Pos} (he : PE X e te) : PE X (.Subscript e (.Slice none none (some (.UnaryOp .USub (.Constant (.int 1) k p1) p2)) p3) pos) (tRevT X.K te) := by
  refine ⟨fun pins s σ H Q I h => ?_⟩
  refine Subscript_ (thn (he.run pins s σ H _ I h) fun v s1 ⟨x, H1, I1, r1, q1⟩ => ?_)
  obtain ⟨a, xs, ex, hx, q⟩ := q1
  subst ex
  cases r1
  have hst : PO X (some (.UnaryOp .USub (.Constant (.int 1) k p1) p2)) (tPart (tUn (rU fun i => .int (-i)) (tC (.int 1)))) := po_some (pe_un un_neg pe_int)
  refine wpAny_Slice (thn (po_none.run pins s1 σ H1 (fun o H2 => o = none ∧ H2 = H1) I1 ⟨rfl, rfl⟩) fun vl s2 ⟨l, H2, I2, pl, el, e2⟩ => ?_)
  subst el e2
  refine thn (po_none.run pins s2 σ H2 (fun o H3 => o = none ∧ H3 = H2) I2 ⟨rfl, rfl⟩) fun vu s3 ⟨u, H3, I3, pu, eu, e3⟩ => ?_
  subst eu e3
  refine thn (hst.run pins s3 σ H3 (fun o H4 => o = some (-1) ∧ H4 = H3) I3 ⟨1, rfl, -1, rfl, rfl, rfl⟩) fun vs s4 ⟨o, H4, I4, ps, eo, e4⟩ => ?_
  subst eo e4
  have I5 : Inv X pins σ H4 { s4 with heap := s4.heap.push { cls := .type "slice", data := .fields #[vl, vu, vs] } } := I4.kept (t' := s4.toks) fun b ob q => Heap.get?_push_of_some _ q
  obtain ⟨its, r, ht, hz⟩ := I5.tuple hx
  have hlen := r.length
  show wpAny (model X.prog X.w) X.A (subscriptTail e (.Slice none none (some (.UnaryOp .USub (.Constant (.int 1) k p1) p2)) p3) (.ref a) (.ref s4.heap.objs.size)) (EP X pins σ Q) X.xe { s4 with heap := s4.heap.push { cls := .type "slice", data := .fields #[vl, vu, vs] } }
  refine tail_any (ops := [.ref a, .ref s4.heap.objs.size]) ht.typeIs (PyProof.Rows.slot_tuple_getitem.lookup) ?_ (by with_unfolding_all rfl)
  refine HT.getItem_tuple_back ht (Heap.IsSliceOf.new _ vl vu vs) pl pu ps ?_ (by rw [List.size_toArray]; omega)
  refine ⟨.ref _, _, I5.laid (t' := s4.toks) (o := .tup xs.reverse) (fun b ob q => Heap.get?_push_of_some _ q) (Nat.le_refl _) ?_, rfl, q _ (I5.hok.fresh (Nat.le_refl _))⟩
  exact ⟨by rw [List.length_reverse]; exact hz, _, r.reverse, IsTup.new _ _⟩
@[simp] def dRevT (t : DE) : DE := fun ρ M P => t ρ M fun d M1 => ∃ ds, d = .tup ds ∧ P (.tup ds.reverse) M1
theorem pd_revT {k : Nat} {p1 p2 p3 pos : Pos} (h : PD X e t) : PD X (.Subscript e (.Slice none none (some (.UnaryOp .USub (.Constant (.int 1) k p1) p2)) p3) pos) (dRevT t) := by
  obtain ⟨u, p, s⟩ := h.ex
  refine ⟨_, pe_revT p, ?_⟩
  intro as σ ρ L H M P Q hE A hh q
  refine s as σ ρ L H M _ _ hE A hh fun v d L1 H1 M1 s1 A1 h1 r1 => ?_
  obtain ⟨ds, rfl, p1⟩ := h1
  cases r1 with
  | tup hs rr =>
    refine ⟨_, _, rfl, ex_t A1.low hs, fun p' hp' => ?_⟩
    exact q _ _ _ _ M1 (s1.trans A1 (Step.know A1 hp')) (A1.know hp') p1 (.tup (.inl (.inl upd_same)) (rr.rev.mono (Ex.new (lowfree A1 hp')) (Pre.refl _)))
end
def rNotB : R2 := fun x y H Q => ∃ a b : Bool, x = .bl a ∧ y = .bl b ∧ Q (.bl (a != b)) H
theorem op_notB {X : Cx} : OpR X (compareOp .IsNot) rNotB := by
  intro pins s σ H x y v u Q I rx ry h
  obtain ⟨a, b, rfl, rfl, q⟩ := h
  cases rx
  cases ry
  exact isnot_bool ⟨.bl _, H, I, rfl, q⟩
@[simp] def oNotB : D2 := fun x y M P => ∃ a b, x = .bl a ∧ y = .bl b ∧ P (.bl (a != b)) M
theorem sr_notB {K : PySem.W.Frag} : SimR K rNotB oNotB := by
  intro as L H M x y d e P Q A r1 r2 ⟨a, b, h1, h2, p⟩ q
  subst h1; subst h2
  cases r1; cases r2
  exact ⟨a, b, rfl, rfl, q _ _ L H M .refl A p (.bl _)⟩
end Pd
set_option Elab.async false
set_option linter.all false
set_option maxRecDepth 100000
set_option maxHeartbeats 4000000
namespace K11
open PySem PySem.Spec PyProof.Rows L2 Pd Spc
def onI (f : Int → Int) : D → D := fun d => match d with | .int a => .int (f a) | d => d
theorem onI_map (f : Int → Int) (fs : List Int) : (dI fs).map (onI f) = dI (fs.map f) := by
  show List.map _ (List.map _ _) = List.map _ (List.map _ _)
  rw [List.map_map, List.map_map]; rfl
section
variable {P : Program} {w : World} {K : PySem.W.Frag} {mg : Str → Option Value} {base : Heap}
theorem apTfz (k : Nat) (p : Int) (fs : List Int) : apartF k [("_prime", D.int p), ("_factors", .tfz fs)] = true := rfl
def W_smul (C : Addr) : DC := fun ds M Q => ∃ (p : Int) (fs : List Int) (k : Int), ds = [dSum C p (tI fs), .int k] ∧ SumOk p fs ∧ 0 ≤ k ∧ k ≤ 10 ∧ SumOk p (fs.map fun a => a * k % p) ∧ okM M ∧ Q (dSum C p (.tfz (fs.map fun a => a * k % p))) M
theorem ok_Sum_mul (T : Tx P w K mg) : FnOk P w K mg base CX0 6 T.a_Sum_mul T.f_Sum_mul ["self", "other"] (spD 2 (W_smul T.a_Sum) K) := by
  refine pd_fn T.F_Sum_mul sc_Sum_mul (fun cdv A outer s H E hr => ⟨_, (pdss_cons (pds_if (pdt_not (pdt_val (pd_call (ok_is_integer T) (hr.mono (by decide)) (by rfl) T.g_is_integer T.F_is_integer.kp T.b_is_integer (pda_cons (pd_name 1) pda_nil)))) (pdss_one pds_never) pdss_nil)
      (pdss_one (pds_ret (pd_make T.m_Sum (ok_Sum_init T) (hr.mono (by decide)) (by rfl) T.g_Sum T.b_Sum_init (pda_cons (pd_fldK (K := K) rfl (pd_name 0)) (pda_cons (pd_lc [("factor", 2)] rfl sc_Sum_mul.nd (pdi_tup (pd_fg (pd_fldK (K := K) rfl (pd_name 0)))) (blkOk_by (N := ["self", "other", "factor"]) (sc := defScope s_Sum_mul) (by decide +kernel)) (fun _ _ _ _ _ => (pdg_name 2 sc_Sum_mul.nd)) (fun _ _ _ _ _ => pdts_nil) (fun _ _ _ _ _ => (pd_op op_mod sr_I (pd_op op_mul sr_I (pd_name 2) (pd_name 1)) (pd_fldK (K := K) rfl (pd_name 0))))) pda_nil)))))), fun ds M Q hl h => ?_⟩)
  obtain ⟨p, fs, k, rfl, h1, k0, k10, h2, hM, q⟩ := h
  refine ⟨.int k, rfl, rfl, .int k, "int", rfl, rfl, true, rfl, ?_⟩
  refine ⟨_, rfl, _, _, _, rfl, T.c_Sum.cl, T.na_prime, rfl, _, rfl, _, _, _, rfl, T.c_Sum.cl, T.na_factors, rfl, _, rfl, ?_⟩
  refine lc_map (onI fun a => a * k % p) _ _ (fun e he R hR => ?_) (by simpa using small' h1) ?_
  · obtain ⟨a, ha, rfl⟩ := List.mem_map.mp he
    have := h1.mem ha
    exact ⟨.int a, rfl, .int k, rfl, a, k, rfl, rfl, .inl ⟨by omega, by omega⟩, _, rfl, _, _, _, rfl, T.c_Sum.cl, T.na_prime, rfl, _, p, rfl, rfl, h1.pos.1, hR⟩
  · rw [List.nil_append, onI_map]
    exact ⟨rfl, _, p, _, _, rfl, get_last _ _, h2, .inl ⟨rfl, M, _, rfl, set_last _ _ _, rfl, apTfz _ _ _, hM, q⟩⟩
def W_sadd (C : Addr) : DC := fun ds M Q => ∃ (p : Int) (fs gs : List Int), ds = [dSum C p (.tfz fs), dSum C p (.tfz gs)] ∧ SumOk p fs ∧ SumOk p gs ∧ gs.length = fs.length ∧ SumOk p (List.zipWith (fun a b => (a + b) % p) fs gs) ∧ okM M ∧ Q (dSum C p (.tfz (List.zipWith (fun a b => (a + b) % p) fs gs))) M
theorem ok_Sum_add (T : Tx P w K mg) : FnOk P w K mg base CX0 6 T.a_Sum_add T.f_Sum_add ["self", "other"] (spD 2 (W_sadd T.a_Sum) K) := by
  refine pd_fn T.F_Sum_add sc_Sum_add (fun cdv A outer s H E hr => ⟨_, (pdss_cons (pds_if (pdt_not (pdt_val (pd_call (ok_is_sum T) (hr.mono (by decide)) (by rfl) T.g_is_sum T.F_is_sum.kp T.b_is_sum (pda_cons (pd_fldK (K := K) rfl (pd_name 0)) (pda_cons (pd_callB call_len_seq sc_len (by rfl) T.n_len (by decide +kernel) (pda_cons (pd_fg (pd_fldK (K := K) rfl (pd_name 0))) pda_nil)) (pda_cons (pd_name 1) pda_nil)))))) (pdss_one pds_never) pdss_nil)
      (pdss_cons (pds_set 2 sc_Sum_add.nd (pd_zipL rfl (by rfl) T.n_list (by rfl) T.n_zip (pda_cons (pd_fg (pd_fldK (K := K) rfl (pd_name 0))) (pda_cons (pd_fg (pd_prop (pd_name 1) T.c_Sum.cl T.pp_Sum_factors (ok_Sum_factors T) (hr.mono (by decide)) T.b_Sum_factors)) pda_nil))))
      (pdss_one (pds_ret (pd_make T.m_Sum (ok_Sum_init T) (hr.mono (by decide)) (by rfl) T.g_Sum T.b_Sum_init (pda_cons (pd_fldK (K := K) rfl (pd_name 0)) (pda_cons (pd_lc [("one", 3), ("two", 4)] rfl sc_Sum_add.nd (pdi_list (pd_name 2)) (blkOk_by (N := ["self", "other", "pairs", "one", "two"]) (sc := defScope s_Sum_add) (by decide +kernel)) (fun _ _ _ _ _ => (pdg_tup (n := 2) rfl (pdgs_cons (pdg_name 3 sc_Sum_add.nd) (pdgs_cons (pdg_name 4 sc_Sum_add.nd) pdgs_nil)))) (fun _ _ _ _ _ => pdts_nil) (fun _ _ _ _ _ => (pd_op op_mod sr_I (pd_op op_add sr_I0i (pd_name 3) (pd_name 4)) (pd_fldK (K := K) rfl (pd_name 0))))) pda_nil))))))), fun ds M Q hl h => ?_⟩)
  obtain ⟨p, fs, gs, rfl, h1, h2, hl', h3, hM, q⟩ := h
  refine ⟨_, rfl, _, _, _, rfl, T.c_Sum.cl, T.na_prime, rfl, _, rfl, _, _, _, rfl, T.c_Sum.cl, T.na_factors, rfl, dI fs, .inr rfl, _, rfl, rfl, p, (fs.length : Nat), _, ?_, .inl ⟨p, .tfz gs, gs, rfl, ?_, true, by rw [hl', decide_eq_true rfl, decide_eq_true rfl]; rfl, ?_⟩⟩
  · rw [List.length_map]
  · first | exact rfl | exact .inr rfl | exact .inr (.inr rfl)
  refine ⟨_, rfl, _, _, _, rfl, T.c_Sum.cl, T.na_factors, rfl, _, rfl, _, rfl, p, _, rfl, _, _, dI fs, dI gs, rfl, .inr rfl, .inr rfl, ?_⟩
  refine ⟨_, rfl, _, _, _, rfl, T.c_Sum.cl, T.na_prime, rfl, _, rfl, _, rfl, ?_⟩
  refine lc_map (on2 fun a b => (a + b) % p) _ _ (fun e he R hR => ?_) (Nat.le_trans (by simpa using pairs_size fs gs) (small' h1)) ?_
  · obtain ⟨a, b, ha, hb, rfl⟩ := pairs_mem _ _ _ he
    exact ⟨_, rfl, rfl, _, _, rfl, _, _, rfl, rfl, .int a, rfl, .int b, rfl, a, b, rfl, rfl, _, rfl, _, _, _, rfl, T.c_Sum.cl, T.na_prime, rfl, _, p, rfl, rfl, h1.pos.1, hR⟩
  · rw [List.nil_append, pairs_map]
    exact ⟨rfl, _, p, _, _, rfl, get_last _ _, h3, .inl ⟨rfl, M, _, rfl, set_last _ _ _, rfl, apTfz _ _ _, hM, q⟩⟩
def W_sumeq (C : Addr) : DC := fun ds M Q => ∃ (p : Int) (a b : List Int), ds = [dSum C p (.tfz a), dSum C p (tI b)] ∧ Q (.bl (decide (a = b))) M
theorem ok_Sum_eq (T : Tx P w K mg) : FnOk P w K mg base CX0 1 T.a_Sum_eq T.f_Sum_eq ["self", "other"] (spD 2 (W_sumeq T.a_Sum) K) := by
  refine pd_fn T.F_Sum_eq sc_Sum_eq (fun cdv A outer s H E hr => ⟨_, (pdss_one (pds_ret (pd_and (pd_callB call_isi sc_isi (by rfl) T.n_isinstance (by decide +kernel) (pda_cons (pd_name 1) (pda_cons (pd_glob (v := .ref T.a_Sum) (d := .ob T.a_Sum) (by rfl) T.g_Sum rfl (fun _ _ => .ob _)) pda_nil))) (pd_and (pd_cmp (op_eqD hr.units) sr_eq (pd_fldK (K := K) rfl (pd_name 0)) (pd_fldK (K := K) rfl (pd_name 1)) (nomark _)) (pd_one (pd_cmp (op_eqD hr.units) sr_eq (pd_fg (pd_fldK (K := K) rfl (pd_name 0))) (pd_fldK (K := K) rfl (pd_name 1)) (nomark _))))))), fun ds M Q hl h => ?_⟩)
  obtain ⟨p, a, b, rfl, q⟩ := h
  refine ⟨_, rfl, _, _, _, _, _, true, rfl, .ins T.c_Sum, .ob T.a_Sum, T.kt_Sum, true, rfl, ?_⟩
  refine ⟨_, rfl, _, _, _, rfl, T.c_Sum.cl, T.na_prime, rfl, _, rfl, _, _, _, rfl, T.c_Sum.cl, T.na_prime, rfl, rfl, rfl, true, by rw [eqD_int, decide_eq_true rfl], ?_⟩
  refine ⟨_, rfl, _, _, _, rfl, T.c_Sum.cl, T.na_factors, rfl, _, rfl, _, _, _, rfl, T.c_Sum.cl, T.na_factors, rfl, okD_tup a, okD_tup _, ?_⟩
  rw [show eqD (fgD (.tfz a)) (tI b) = decide (a = b) from eqD_tup a b]
  exact q
end
end K11
set_option Elab.async false
set_option linter.all false
set_option maxRecDepth 100000
set_option maxHeartbeats 4000000
namespace K11
namespace X
open PySem PySem.Spec PyProof.Rows L2 Pd Spc
/-- the items of what is told -/
inductive It where
  | num (i : Int)
  | tru
  | pr (x : List Int) (k : Int)
  | np
def itD : It → D | .num i => .int i | .tru => .bl true | .pr x k => .tup [tI x, .int k] | .np => .tup [.non, .int 1]
def ItOk : It → Prop | .num i => 0 ≤ i ∧ i ≤ 6 | .tru => True | .pr x k => (∃ i j : Nat, x = [(i : Int), (j : Int)] ∧ i ≤ 9 ∧ j ≤ 9) ∧ 0 ≤ k ∧ k ≤ 6 | .np => True
def prB (p : Int) (cs : List (List Int)) : It → Bool | .pr x k => decide (x ∈ cs) && (decide (1 ≤ k) && decide (k ≤ p - 1)) | _ => false
def spt : It → List Int | .pr x _ => x | _ => []
def prT (rows : List (List (List Int))) : It → Rw × Int | .pr x k => (prt rows x, k) | _ => ([], 0)
def combB (p : Int) (cs : List (List Int)) (its : List It) : Bool := its.all (prB p cs) && ascG ((its.map spt).map tI)
def sumT (p : Int) (n : Nat) (rows : List (List (List Int))) (its : List It) : Rw := (its.map (prT rows)).foldl (addm p) (zero n)
def numI : It → Int | .num i => i | _ => 0
def blB (p : Int) (n : Nat) (rows : List (List (List Int))) (cs : List (List Int)) (y : Rw) (its : List It) : Bool := dataB p n (.tup (its.map itD)) && ((cs.all fun c => dot (prt rows c) (its.map numI) p == 0) && dot y (its.map numI) p != 0)
def accB (p : Int) (n : Nat) (rows : List (List (List Int))) (cs : List (List Int)) (y : Rw) (w : Str) (its : List It) : Bool :=
  if w = "combination" then combB p cs its && decide (sumT p n rows its = y) else if w = "blind" then blB p n rows cs y its else false
theorem it_ty (it : It) : ∃ t, tyN (itD it) = some t := by cases it <;> exact ⟨_, rfl⟩
theorem its_ty {its : List It} (h : its.length ≤ 1000) : TyI (.tup (its.map itD)) := ⟨⟨_, rfl⟩, fun xs e => by
  cases e
  refine ⟨by rw [List.length_map]; exact h, fun x hx => ?_⟩
  obtain ⟨it, _, rfl⟩ := List.mem_map.mp hx
  exact it_ty it⟩
theorem prB_pr {p : Int} {cs : List (List Int)} {it : It} (h : prB p cs it = true) : ∃ x k, it = .pr x k ∧ x ∈ cs ∧ 1 ≤ k ∧ k ≤ p - 1 := by
  cases it with
  | pr x k =>
    have h' : (decide (x ∈ cs) && (decide (1 ≤ k) && decide (k ≤ p - 1))) = true := h
    simp only [Bool.and_eq_true, decide_eq_true_eq] at h'
    exact ⟨x, k, rfl, h'⟩
  | num i => cases h
  | tru => cases h
  | np => cases h
theorem data_nums {p : Int} {n : Nat} {its : List It} (hp : 0 ≤ p) (h : dataB p n (.tup (its.map itD)) = true) : its.map itD = dI (its.map numI) ∧ its.map numI ∈ allD p n := by
  have h' : (decide ((its.map itD).length = n) && (its.map itD).all (btwB 0 (p - 1))) = true := h
  rw [Bool.and_eq_true, decide_eq_true_eq] at h'
  obtain ⟨hl, ha⟩ := h'
  rw [List.length_map] at hl
  have hi : ∀ it ∈ its, ∃ i, it = .num i ∧ 0 ≤ i ∧ i ≤ p - 1 := fun it hit => by
    have := List.all_eq_true.mp ha (itD it) (List.mem_map_of_mem hit)
    cases it with
    | num i =>
      have h2 : (decide (0 ≤ i) && decide (i ≤ p - 1)) = true := this
      rw [Bool.and_eq_true, decide_eq_true_eq, decide_eq_true_eq] at h2
      exact ⟨i, rfl, h2⟩
    | tru => cases this
    | pr x k => cases this
    | np => cases this
  refine ⟨?_, ?_⟩
  · show _ = List.map D.int _
    rw [List.map_map]
    refine List.map_congr_left fun it hit => ?_
    obtain ⟨i, rfl, _⟩ := hi it hit
    rfl
  · refine mem_allD hp (by rw [List.length_map, hl]) fun x hx => ?_
    obtain ⟨it, hit, rfl⟩ := List.mem_map.mp hx
    obtain ⟨i, rfl, h0, h1⟩ := hi it hit
    exact ⟨h0, by show i < p; omega⟩
theorem combB_no {p : Int} {cs : List (List Int)} {its : List It} {it : It} (h : it ∈ its) (hb : prB p cs it = false) : combB p cs its = false := by
  unfold combB
  rw [List.all_eq_false.mpr ⟨it, h, by rw [hb]; exact Bool.false_ne_true⟩, Bool.false_and]
theorem step_add (p k : Int) : ∀ a b : List Int, List.zipWith (fun a b => (a + b) % p) a (b.map fun c => c * k % p) = addm p a (b, k)
  | [], _ => rfl
  | _ :: _, [] => rfl
  | a :: as, b :: bs => by
    have ih := step_add p k as bs
    unfold addm mn at ih ⊢
    rw [List.map_cons, List.zipWith_cons_cons, List.zipWith_cons_cons, ih]
    congr 1
    show (a + b * k % p) % p = (a - -k * b) % p
    rw [Int.add_emod_emod, Int.neg_mul, Int.sub_neg, Int.mul_comm]
theorem sum_in {p : Int} {n : Nat} {rows : List (List (List Int))} (hp : 0 < p) (hr : ∀ x ∈ tsp rows, prt rows x ∈ allD p n) {its : List It} (hi : ∀ it ∈ its, ∃ x k, it = .pr x k ∧ x ∈ tsp rows ∧ 1 ≤ k ∧ k ≤ p - 1) : sumT p n rows its ∈ allD p n := by
  unfold sumT
  refine mem_allD (by omega) (fold_len (by unfold zero; rw [List.length_replicate]) fun t ht => ?_) (fold_in hp fun x hx => ?_)
  · obtain ⟨it, hit, rfl⟩ := List.mem_map.mp ht
    obtain ⟨x, k, rfl, hx, _⟩ := hi it hit
    exact (allD_mem (hr x hx)).1
  · unfold zero at hx
    rw [(List.mem_replicate.mp hx).2]; exact ⟨Int.le_refl _, hp⟩
theorem sum_snoc {p : Int} {n : Nat} {rows : List (List (List Int))} {its : List It} {k : Nat} (h : k < its.length) : sumT p n rows (its.take (k + 1)) = addm p (sumT p n rows (its.take k)) (prT rows its[k]) := by
  unfold sumT
  rw [List.take_succ_eq_append_getElem h, List.map_append, List.foldl_append]; rfl
theorem iff1 {A B : Prop} (h : A) : if true = true then A else B := by rw [if_pos rfl]; exact h
theorem iff0 {A B : Prop} (h : B) : if false = true then A else B := by rw [if_neg Bool.false_ne_true]; exact h
theorem any_allI (f : List Int → Int) : ∀ cs : List (List Int), (!(cs.map f).any fun n => n != 0) = cs.all fun c => f c == 0
  | [] => rfl
  | c :: cs => by
    rw [List.map_cons, List.any_cons, List.all_cons, Bool.not_or, any_allI f cs]
    congr 1
    cases h : (f c == 0) <;> simp_all [bne]
def fst1D : D → D | .tup [a, _] => a | d => d
section
variable {P : Program} {w : World} {K : PySem.W.Frag} {mg : Str → Option Value} {base : Heap}
theorem noTup {v : D} {t : String} (h : tyN v = some t) (hn : t ≠ "tuple") : DTy K v (.type t) ∧ PySem.W.kitOne K (.type t) (.type "tuple") = some false := by
  refine ⟨dty h, ?_⟩
  cases v <;> simp only [tyN, Option.some.injEq, reduceCtorEq] at h <;> subst h
  all_goals first | exact kit_ty (by decide +kernel) | exact absurd rfl hn
def W_given (S TC : Addr) : DC := fun ds M Q => ∃ (p : Int) (n : Nat) (SP : List (List Rw)) (rows : List (List (List Int))) (its : List It), ds = [dTab S TC p n rows, .tup (its.map itD)] ∧ Univ p n SP ∧ RwOk p n rows ∧ (∀ it ∈ its, ∃ x k, it = .pr x k ∧ x ∈ tsp rows ∧ 1 ≤ k ∧ k ≤ p - 1) ∧ okM M ∧ Q (dSum S p (.tfz (sumT p n rows its))) M
theorem ok_given_sum (T : Tx P w K mg) : FnOk P w K mg base CX0 7 T.a_given_sum T.f_given_sum ["table", "combination"] (spD 2 (W_given T.a_Sum T.a_Table) K) := by
  refine pd_fn T.F_given_sum sc_given_sum (fun cdv A outer s H E hr => ⟨_, (pdss_cons (pds_set 2 sc_given_sum.nd (pd_make T.m_Sum (ok_Sum_init T) (hr.mono (by decide)) (by rfl) T.g_Sum T.b_Sum_init (pda_cons (pd_prop (pd_name 0) T.c_Table.cl T.pp_Table_prime (ok_Table_prime T) (hr.mono (by decide)) T.b_Table_prime) (pda_cons (pd_lc [("_", 5)] rfl sc_given_sum.nd (pdi_range1 (by rfl) T.n_range (pda_cons (pd_prop (pd_name 0) T.c_Table.cl T.pp_Table_size (ok_Table_size T) (hr.mono (by decide)) T.b_Table_size) pda_nil)) (blkOk_by (N := ["table", "combination", "total", "spot", "factor", "_"]) (sc := defScope s_given_sum) (by decide +kernel)) (fun _ _ _ _ _ => (pdg_name 5 sc_given_sum.nd)) (fun _ _ _ _ _ => pdts_nil) (fun _ _ _ _ _ => pd_int)) pda_nil))))
      (pdss_cons (pds_for PassesOwn.never rfl (pdi_tup (pd_name 1)) (pdg_tup (n := 2) rfl (pdgs_cons (pdg_name 3 sc_given_sum.nd) (pdgs_cons (pdg_name 4 sc_given_sum.nd) pdgs_nil))) (pdss_one (pds_set 2 sc_given_sum.nd (pd_op (op_ownI T.sf_Sum T.o_add T.i_add (ok_Sum_add T) T.b_Sum_add (hr.mono (by decide))) sr_ownI (pd_name 2) (pd_op (op_ownN T.sf_Sum T.o_mul T.i_mul T.o_rmul (Or.inl rfl) T.ii_mul.choose_spec T.ii_rmul.choose_spec T.ii_sub (ok_Sum_mul T) T.b_Sum_mul (hr.mono (by decide))) sr_ownN (pd_ownIxN T.gi_Table T.gf_Table T.gn_Table (ok_Table_getitem T) T.b_Table_getitem (hr.mono (by decide)) (pd_name 0) (pd_name 3)) (pd_name 4))))))
      (pdss_one (pds_ret (pd_name 2))))), fun ds M Q hl h => ?_⟩)
  obtain ⟨p, n, SP, rows, its, rfl, U, hw, hi, hM, q⟩ := h
  have hsl : sizeLine = 16777216 := by decide
  have hp2 := U.p2
  have hp7 := U.p7
  have hn1 := U.n1
  have hn4 := U.n4
  have hr : ∀ x ∈ tsp rows, prt rows x ∈ allD p n := fun x hx => prt_in hw hx
  have hz : zero n ∈ allD p n := mem_allD (by omega) (by unfold zero; rw [List.length_replicate]) fun x hx => by unfold zero at hx; rw [(List.mem_replicate.mp hx).2]; exact ⟨Int.le_refl _, by omega⟩
  have ez : ([] : List D) ++ (rng 0 ((n : Nat) : Int).toNat).map (fun _ => D.int 0) = dI (zero n) := by
    rw [List.nil_append, List.map_const', rng_len, Int.toNat_natCast]
    show _ = List.map D.int (List.replicate n 0)
    rw [List.map_replicate]
  refine ⟨_, rfl, _, rfl, p, n, rows, rfl, _, rfl, _, rfl, p, n, rows, rfl, n, rfl, by omega, by omega, lc_map (fun _ => .int 0) _ _ (fun d _ R hR => hR) (by rw [List.length_nil, rng_len, Int.toNat_natCast]; omega) ?_⟩
  rw [ez]
  refine ⟨rfl, _, p, _, zero n, rfl, get_last _ _, sum_ok U hz, .inl ⟨rfl, M, _, rfl, set_last _ _ _, rfl, apTfz _ _ _, hM, ?_⟩⟩
  refine ⟨_, rfl, _, rfl, ?_⟩
  refine for_ind (fun k ρ M' => M' = M ∧ ∃ x3 x4, ρ = [some (dTab T.a_Sum T.a_Table p n rows), some (.tup (its.map itD)), some (dSum T.a_Sum p (.tfz (sumT p n rows (its.take k)))), x3, x4, none]) _ ?_ ?_ ⟨rfl, _, _, rfl⟩
  · rintro k d ρ M' N hd ⟨rfl, x3, x4, rfl⟩ hN
    have hk : k < its.length := by have := (List.getElem?_eq_some_iff.mp hd).1; rwa [List.length_map] at this
    rw [List.getElem?_map, List.getElem?_eq_getElem hk] at hd
    obtain ⟨x, m, e, hx, m1, m2⟩ := hi _ (List.getElem_mem hk)
    have hs := sum_snoc (p := p) (n := n) (rows := rows) hk
    rw [e] at hd hs
    cases hd
    have h1 := sum_in (by omega : 0 < p) hr (its := its.take k) fun it h => hi it (List.mem_of_mem_take h)
    have h2 := sum_in (by omega : 0 < p) hr (its := its.take (k + 1)) fun it h => hi it (List.mem_of_mem_take h)
    have h3 : sumT p n rows (its.take (k + 1)) = List.zipWith (fun a b => (a + b) % p) (sumT p n rows (its.take k)) ((prt rows x).map fun c => c * m % p) := by rw [hs, step_add]; rfl
    have hmul : ((prt rows x).map fun c => c * m % p) ∈ allD p n := mem_allD (by omega) (by rw [List.length_map]; exact (allD_mem (hr x hx)).1) fun y hy => by
      obtain ⟨c, _, rfl⟩ := List.mem_map.mp hy
      exact ⟨Int.emod_nonneg _ (by omega), Int.emod_lt_of_pos _ (by omega)⟩
    refine ⟨_, rfl, rfl, _, _, rfl, _, _, rfl, rfl, ?_⟩
    refine ⟨_, rfl, _, rfl, _, rfl, _, rfl, p, n, rows, x, rfl, hx, _, rfl, _, m, rfl, rfl, p, prt rows x, m, rfl, sum_ok U (hr x hx), by omega, by omega, sum_ok U hmul, hM, ?_⟩
    refine ⟨_, _, rfl, rfl, p, _, _, rfl, sum_ok U h1, sum_ok U hmul, by rw [(allD_mem hmul).1, (allD_mem h1).1], by rw [← h3]; exact sum_ok U h2, hM, ?_⟩
    rw [← h3]
    exact hN _ _ ⟨rfl, _, _, rfl⟩
  · rintro ρ M' ⟨rfl, x3, x4, rfl⟩
    rw [List.length_map, List.take_length]
    exact ⟨_, rfl, q⟩
def W_iscomb (S TC : Addr) : DC := fun ds M Q => ∃ (p : Int) (n : Nat) (SP : List (List Rw)) (rows : List (List (List Int))) (cs : List (List Int)) (v : D), ds = [dTab S TC p n rows, .lst (cs.map tI), v] ∧ Univ p n SP ∧ ((∃ its : List It, v = .tup (its.map itD) ∧ (∀ it ∈ its, ItOk it) ∧ its.length ≤ 20 ∧ Q (.bl (combB p cs its)) M) ∨ (∃ t, tyN v = some t ∧ t ≠ "tuple" ∧ Q (.bl false) M))
theorem ok_is_combination (T : Tx P w K mg) : FnOk P w K mg base CX0 4 T.a_is_combination T.f_is_combination ["table", "spots", "value"] (spD 3 (W_iscomb T.a_Sum T.a_Table) K) := by
  refine pd_fn T.F_is_combination sc_is_combination (fun cdv A outer s H E hr => ⟨_, (pdss_cons (pds_if (pdt_not (pdt_val (pd_callB call_isi sc_isi (by rfl) T.n_isinstance (by decide +kernel) (pda_cons (pd_name 2) (pda_cons (pd_bltn (v := .ty "tuple") (d := .ty "tuple") (by rfl) T.n_tuple (by decide +kernel) rfl (fun _ _ => .ty _)) pda_nil))))) (pdss_one (pds_ret pd_bl)) pdss_nil)
      (pdss_cons (pds_for PassesOwn.never rfl (pdi_tup (pd_name 2)) (pdg_name 3 sc_is_combination.nd) (pdss_cons (pds_if (pdt_w (pdw_or (pdt_not (pdt_val (pd_callB call_isi sc_isi (by rfl) T.n_isinstance (by decide +kernel) (pda_cons (pd_name 3) (pda_cons (pd_bltn (v := .ty "tuple") (d := .ty "tuple") (by rfl) T.n_tuple (by decide +kernel) rfl (fun _ _ => .ty _)) pda_nil))))) (pdw_or1 (pdt_cmp (op_neD hr.units) sr_ne (pd_callB call_len_seq sc_len (by rfl) T.n_len (by decide +kernel) (pda_cons (pd_name 3) pda_nil)) pd_int (nomark _))))) (pdss_one (pds_ret pd_bl)) pdss_nil)
      (pdss_one (pds_if (pdt_w (pdw_or (pdt_not (pdt_val (pd_call (ok_is_spot T) (hr.mono (by decide)) (by rfl) T.g_is_spot T.F_is_spot.kp T.b_is_spot (pda_cons (pd_ix ix_tup sr_ixT (pd_name 3) pd_int) (pda_cons (pd_name 1) pda_nil))))) (pdw_or1 (pdt_not (pdt_val (pd_call (ok_is_between T) (hr.mono (by decide)) (by rfl) T.g_is_between T.F_is_between.kp T.b_is_between (pda_cons (pd_ix ix_tup sr_ixT (pd_name 3) pd_int) (pda_cons pd_int (pda_cons (pd_op op_sub sr_I0i (pd_prop (pd_name 0) T.c_Table.cl T.pp_Table_prime (ok_Table_prime T) (hr.mono (by decide)) T.b_Table_prime) pd_int) pda_nil))))))))) (pdss_one (pds_ret pd_bl)) pdss_nil))))
      (pdss_one (pds_ret (pd_call (ok_is_ascending T) (hr.mono (by decide)) (by rfl) T.g_is_ascending T.F_is_ascending.kp T.b_is_ascending (pda_cons (pd_lc [("spot", 4), ("_", 5)] rfl sc_is_combination.nd (pdi_tup (pd_name 2)) (blkOk_by (N := ["table", "spots", "value", "item", "spot", "_"]) (sc := defScope s_is_combination) (by decide +kernel)) (fun _ _ _ _ _ => (pdg_tup (n := 2) rfl (pdgs_cons (pdg_name 4 sc_is_combination.nd) (pdgs_cons (pdg_name 5 sc_is_combination.nd) pdgs_nil)))) (fun _ _ _ _ _ => pdts_nil) (fun _ _ _ _ _ => (pd_name 4))) pda_nil)))))), fun ds M Q hl h => ?_⟩)
  obtain ⟨p, n, SP, rows, cs, v, rfl, U, h⟩ := h
  have hsl : sizeLine = 16777216 := by decide
  rcases h with ⟨its, rfl, hi, hl20, q⟩ | ⟨t, ht, hn, q⟩
  rotate_left
  · obtain ⟨hd, hk⟩ := noTup (K := K) ht hn
    exact ⟨v, rfl, _, _, _, _, _, false, rfl, hd, .ty "tuple", hk, false, rfl, q⟩
  refine ⟨_, rfl, _, _, _, _, _, true, rfl, dty rfl, .ty "tuple", kit_ty (by decide +kernel), true, rfl, ?_⟩
  refine ⟨_, rfl, its.map itD, rfl, ?_⟩
  refine for_ind (fun k ρ M' => M' = M ∧ (∀ it ∈ its.take k, prB p cs it = true) ∧ ∃ x3, ρ = [some (dTab T.a_Sum T.a_Table p n rows), some (.lst (cs.map tI)), some (.tup (its.map itD)), x3, none, none]) _ ?_ ?_ ⟨rfl, fun it h => (nomatch h), _, rfl⟩
  · rintro k d ρ M' N hd ⟨rfl, hpre, x3, rfl⟩ hN
    have hk : k < its.length := by have := (List.getElem?_eq_some_iff.mp hd).1; rwa [List.length_map] at this
    rw [List.getElem?_map, List.getElem?_eq_getElem hk] at hd
    have hmem := List.getElem_mem hk
    have hstep : prB p cs its[k] = true → ∀ it ∈ its.take (k + 1), prB p cs it = true := fun h it hit => by
      rw [List.take_succ_eq_append_getElem hk] at hit
      rcases List.mem_append.mp hit with hit | hit
      · exact hpre it hit
      · rw [List.mem_singleton.mp hit]; exact h
    have hok := hi _ hmem
    have hno : prB p cs its[k] = false → combB p cs its = false := combB_no hmem
    generalize its[k] = it at hd hmem hstep hok hno
    cases hd
    cases it with
    | num i =>
      rw [hno rfl] at q
      exact ⟨_, rfl, _, _, _, _, _, false, rfl, dty rfl, .ty "tuple", kit_ty (by decide +kernel), false, rfl, q⟩
    | tru =>
      rw [hno rfl] at q
      exact ⟨_, rfl, _, _, _, _, _, false, rfl, dty rfl, .ty "tuple", kit_ty (by decide +kernel), false, rfl, q⟩
    | np =>
      rw [hno rfl] at q
      refine ⟨_, rfl, _, _, _, _, _, true, rfl, dty rfl, .ty "tuple", kit_ty (by decide +kernel), true, rfl, ?_⟩
      refine ⟨_, rfl, _, .inr rfl, rfl, rfl, false, rfl, iff0 ?_⟩
      exact ⟨_, rfl, [.non, .int 1], 0, .non, rfl, rfl, ⟨by decide, rfl⟩, _, rfl, rfl, .non, "NoneType", _, cs, rfl, .inl rfl, rfl, (fun xs e => by cases e), false, rfl, q⟩
    | pr x m =>
      obtain ⟨⟨i, j, rfl, i9, j9⟩, m0, m6⟩ := hok
      refine ⟨_, rfl, _, _, _, _, _, true, rfl, dty rfl, .ty "tuple", kit_ty (by decide +kernel), true, rfl, ?_⟩
      refine ⟨_, rfl, _, .inr rfl, rfl, rfl, false, rfl, iff0 ?_⟩
      refine ⟨_, rfl, [tI [(i : Int), (j : Int)], .int m], 0, _, rfl, rfl, ⟨by decide, rfl⟩, _, rfl, rfl, tI [(i : Int), (j : Int)], "tuple", _, cs, rfl, .inl rfl, rfl, (fun xs e x hx => by cases e; obtain ⟨y, _, rfl⟩ := List.mem_map.mp hx; exact ⟨_, rfl⟩), decide ([(i : Int), (j : Int)] ∈ cs), rfl, ?_⟩
      by_cases hx : [(i : Int), (j : Int)] ∈ cs
      · rw [decide_eq_true hx]
        refine ⟨_, rfl, [tI [(i : Int), (j : Int)], .int m], 1, _, rfl, rfl, ⟨by decide, rfl⟩, _, rfl, _, rfl, p, n, rows, rfl, _, _, rfl, rfl, rfl, .int m, "int", 1, p - 1, rfl, rfl, fun z e => ?_, fun e => (by cases e)⟩
        cases e
        by_cases hm : 1 ≤ m ∧ m ≤ p - 1
        · refine ⟨true, by rw [decide_eq_true hm.1, decide_eq_true hm.2]; rfl, ?_⟩
          refine hN _ _ ⟨rfl, hstep ?_, _, rfl⟩
          show (decide _ && (decide _ && decide _)) = true
          rw [decide_eq_true hx, decide_eq_true hm.1, decide_eq_true hm.2]; rfl
        · have hb : (decide (1 ≤ m) && decide (m ≤ p - 1)) = false := by
            rw [Bool.and_eq_false_iff, decide_eq_false_iff_not, decide_eq_false_iff_not]; omega
          refine ⟨false, by rw [hb], ?_⟩
          rw [hno (by show (decide _ && (decide _ && decide _)) = false; rw [hb, Bool.and_false])] at q
          exact q
      · rw [decide_eq_false hx]
        rw [hno (by show (decide _ && (decide _ && decide _)) = false; rw [decide_eq_false hx, Bool.false_and])] at q
        exact q
  · rintro ρ M' ⟨rfl, hall, x3, rfl⟩
    rw [List.length_map, List.take_length] at hall
    have hc : combB p cs its = ascG ((its.map spt).map tI) := by
      unfold combB
      rw [List.all_eq_true.mpr hall, Bool.true_and]
    rw [hc] at q
    refine ⟨_, rfl, its.map itD, rfl, lc_map fst1D _ _ (fun d hd R hR => ?_) (by rw [List.length_nil, List.length_map]; omega) ?_⟩
    · obtain ⟨it, hit, rfl⟩ := List.mem_map.mp hd
      obtain ⟨x, m, rfl, _⟩ := prB_pr (hall it hit)
      exact ⟨_, rfl, rfl, _, _, rfl, _, _, rfl, rfl, _, rfl, hR⟩
    have em : ([] : List D) ++ (its.map itD).map fst1D = (its.map spt).map tI := by
      rw [List.nil_append, List.map_map, List.map_map]
      refine List.map_congr_left fun it hit => ?_
      obtain ⟨x, m, rfl, _⟩ := prB_pr (hall it hit)
      rfl
    rw [em]
    exact ⟨rfl, _, _, rfl, .inl rfl, by rw [List.length_map, List.length_map]; omega, .inr ⟨_, rfl⟩, q⟩
def W_isbl (S TC : Addr) : DC := fun ds M Q => ∃ (p : Int) (n : Nat) (SP : List (List Rw)) (rows : List (List (List Int))) (cs : List (List Int)) (y : Rw) (v : D), ds = [dTab S TC p n rows, .lst (cs.map tI), .lst [dSum S p (tI y)], v] ∧ Univ p n SP ∧ RwOk p n rows ∧ Cs rows cs ∧ y ∈ allD p n ∧ ((∃ its : List It, fgD v = .tup (its.map itD) ∧ its.length ≤ 20 ∧ Q (.bl (blB p n rows cs y its)) M) ∨ (∃ t, fgD v = v ∧ tyN v = some t ∧ t ≠ "tuple" ∧ Q (.bl false) M))
theorem ok_is_blind (T : Tx P w K mg) : FnOk P w K mg base CX0 8 T.a_is_blind T.f_is_blind ["table", "spots", "items", "value"] (spD 4 (W_isbl T.a_Sum T.a_Table) K) := by
  refine pd_fn T.F_is_blind sc_is_blind (fun cdv A outer s H E hr => ⟨_, (pdss_cons (pds_if (pdt_w (pdw_or (pdt_not (pdt_val (pd_callB call_isi sc_isi (by rfl) T.n_isinstance (by decide +kernel) (pda_cons (pd_fg (pd_name 3)) (pda_cons (pd_bltn (v := .ty "tuple") (d := .ty "tuple") (by rfl) T.n_tuple (by decide +kernel) rfl (fun _ _ => .ty _)) pda_nil))))) (pdw_or1 (pdt_not (pdt_val (pd_call (ok_is_data T) (hr.mono (by decide)) (by rfl) T.g_is_data T.F_is_data.kp T.b_is_data (pda_cons (pd_prop (pd_name 0) T.c_Table.cl T.pp_Table_prime (ok_Table_prime T) (hr.mono (by decide)) T.b_Table_prime) (pda_cons (pd_prop (pd_name 0) T.c_Table.cl T.pp_Table_size (ok_Table_size T) (hr.mono (by decide)) T.b_Table_size) (pda_cons (pd_fg (pd_name 3)) pda_nil))))))))) (pdss_one (pds_ret pd_bl)) pdss_nil)
      (pdss_one (pds_ret (pd_and (pd_not (pd_callB (cr_anyLI rfl) sc_anyLI (by rfl) T.n_any (by decide +kernel) (pda_cons (pd_lc [("spot", 5)] rfl sc_is_blind.nd (pdi_list (pd_name 1)) (blkOk_by (N := ["table", "spots", "items", "value", "item", "spot"]) (sc := defScope s_is_blind) (by decide +kernel)) (fun _ _ _ _ _ => (pdg_name 5 sc_is_blind.nd)) (fun _ _ _ _ _ => pdts_nil) (fun _ _ _ _ _ => (pd_callO (pd_ownIxN T.gi_Table T.gf_Table T.gn_Table (ok_Table_getitem T) T.b_Table_getitem (hr.mono (by decide)) (pd_name 0) (pd_name 5)) T.call_Sum (ok_Sum_call T) T.b_Sum_call (hr.mono (by decide)) (pda_cons (pd_fg (pd_name 3)) pda_nil)))) pda_nil))) (pd_one (pd_callB (cr_anyLI rfl) sc_anyLI (by rfl) T.n_any (by decide +kernel) (pda_cons (pd_lc [("item", 4)] rfl sc_is_blind.nd (pdi_list (pd_name 2)) (blkOk_by (N := ["table", "spots", "items", "value", "item", "spot"]) (sc := defScope s_is_blind) (by decide +kernel)) (fun _ _ _ _ _ => (pdg_name 4 sc_is_blind.nd)) (fun _ _ _ _ _ => pdts_nil) (fun _ _ _ _ _ => (pd_callO (pd_name 4) T.call_Sum (ok_Sum_call T) T.b_Sum_call (hr.mono (by decide)) (pda_cons (pd_fg (pd_name 3)) pda_nil)))) pda_nil))))))), fun ds M Q hl h => ?_⟩)
  obtain ⟨p, n, SP, rows, cs, y, v, rfl, U, hw, hc, hy, h⟩ := h
  have hsl : sizeLine = 16777216 := by decide
  have hp2 := U.p2
  have hp7 := U.p7
  have hn1 := U.n1
  have hn4 := U.n4
  have h10 := tsp_len hw
  have hcl := hc.len
  obtain ⟨g, hg, hg2⟩ := U.g
  refine ⟨_, rfl, ?_⟩
  rcases h with ⟨its, hv, hl20, q⟩ | ⟨t, hv, ht, hn, q⟩
  rotate_left
  · obtain ⟨hd, hk⟩ := noTup (K := K) ht hn
    dsimp only
    rw [hv]
    exact ⟨_, _, _, _, _, false, rfl, hd, .ty "tuple", hk, false, rfl, q⟩
  dsimp only
  rw [hv]
  refine ⟨_, _, _, _, _, true, rfl, dty rfl, .ty "tuple", kit_ty (by decide +kernel), true, rfl, ?_⟩
  refine ⟨_, rfl, _, rfl, p, n, rows, rfl, _, rfl, _, rfl, p, n, rows, rfl, _, rfl, ?_⟩
  dsimp only
  rw [hv]
  refine ⟨rfl, p, g, n, _, rfl, hg, hn1, hg2, its_ty (by omega), dataB p n (.tup (its.map itD)), rfl, ?_⟩
  cases hd : dataB p n (.tup (its.map itD)) with
  | false =>
    unfold blB at q
    rw [hd, Bool.false_and] at q
    exact q
  | true =>
    obtain ⟨e1, e2⟩ := data_nums (by omega) hd
    unfold blB at q
    rw [hd, Bool.true_and] at q
    rw [e1] at hv
    generalize its.map numI = x at e1 e2 q hv
    obtain ⟨x1, x2⟩ := allD_mem e2
    refine ⟨_, rfl, _, rfl, lc_map (fun d => .int (dot (prt rows (intsOf d)) x p)) _ _ (fun d hd R hR => ?_) (by rw [List.length_nil, List.length_map]; omega) ?_⟩
    · obtain ⟨c, hc', rfl⟩ := List.mem_map.mp hd
      have hR' : R (.int (dot (prt rows (intsOf (tI c))) x p)) M := hR
      rw [ints_tI] at hR'
      have hci := prt_in hw (hc.inn c hc')
      refine ⟨_, rfl, _, rfl, _, rfl, p, n, rows, c, rfl, hc.inn c hc', _, rfl, _, rfl, ?_⟩
      dsimp only
      rw [hv]
      exact ⟨rfl, p, _, prt rows c, _, x, rfl, rfl, sum_ok U hci, sum_ok U e2, .inr rfl, by rw [x1, (allD_mem hci).1], hR'⟩
    have em : ([] : List D) ++ (cs.map tI).map (fun d => D.int (dot (prt rows (intsOf d)) x p)) = dI (cs.map fun c => dot (prt rows c) x p) := by
      rw [List.nil_append, List.map_map]
      show _ = List.map D.int (List.map _ cs)
      rw [List.map_map]
      exact List.map_congr_left fun c _ => by show D.int (dot (prt rows (intsOf (tI c))) x p) = D.int (dot (prt rows c) x p); rw [ints_tI]
    rw [em]
    have ea := any_allI (fun c => dot (prt rows c) x p) cs
    refine ⟨_, rfl, _, rfl, ?_⟩
    rw [ea]
    cases ha : cs.all fun c => dot (prt rows c) x p == 0 with
    | false =>
      rw [ha, Bool.false_and] at q
      exact ⟨false, rfl, iff0 q⟩
    | true =>
      rw [ha, Bool.true_and] at q
      refine ⟨true, rfl, iff1 ?_⟩
      refine ⟨_, rfl, [dSum T.a_Sum p (tI y)], rfl, lc_map (fun _ => .int (dot y x p)) _ _ (fun d hd R hR => ?_) (by show 0 + 1 ≤ sizeLine; rw [hsl]; decide) ?_⟩
      · rw [List.mem_singleton.mp hd]
        refine ⟨_, rfl, _, rfl, _, rfl, ?_⟩
        dsimp only
        rw [hv]
        exact ⟨rfl, p, _, y, _, x, rfl, rfl, sum_ok U hy, sum_ok U e2, .inr rfl, by rw [x1, (allD_mem hy).1], hR⟩
      · refine ⟨[dot y x p], rfl, ?_⟩
        rw [show ([dot y x p].any fun n => n != 0) = (dot y x p != 0) by simp]
        exact q
end
end X
end K11
set_option Elab.async false
set_option linter.all false
set_option maxRecDepth 100000
set_option maxHeartbeats 4000000
namespace K11
namespace X
open PySem PySem.Spec PyProof.Rows L2 Pd Spc
section
variable {P : Program} {w : World} {K : PySem.W.Frag} {mg : Str → Option Value} {base : Heap}
/-- what may be judged -/
inductive Vj (v : D) : Prop
  | nt (t : String) (h : tyN v = some t) (hn : t ≠ "tuple")
  | ln (es : List D) (h : v = .tup es) (hn : es.length ≠ 2)
  | ti (es : List D) (w : Str) (h : v = .tup [.tup es, .str w])
  | ts (w : Str) (u : D) (t : String) (h : v = .tup [.str w, u]) (hf : fgD u = u) (ht : tyN u = some t) (hn : t ≠ "tuple") (hw : okD (.str w) = true)
structure Vg (v : D) (w : Str) (its : List It) : Prop where
  ex : ∃ u, v = .tup [.str w, u] ∧ fgD u = .tup (its.map itD)
  ok : ∀ it ∈ its, ItOk it
  len : its.length ≤ 20
  wk : okD (.str w) = true
theorem eq_str (a b : Str) : eqD (.str a) (.str b) = decide (a = b) := by
  show PyData.eqv (.str a) (.str b) = _
  rw [Bool.eq_iff_iff]; simp [PyData.eqv]
def W_ishave (S TC : Addr) : DC := fun ds M Q => ∃ (p : Int) (n : Nat) (SP : List (List Rw)) (rows : List (List (List Int))) (cs : List (List Int)) (y : Rw) (v : D), ds = [dTab S TC p n rows, .lst (cs.map tI), dSum S p (tI y), v] ∧ Univ p n SP ∧ RwOk p n rows ∧ Cs rows cs ∧ y ∈ allD p n ∧ okM M ∧
  ((∃ wd its, Vg v wd its ∧ Q (.bl (accB p n rows cs y wd its)) M) ∨ (Vj v ∧ Q (.bl false) M))
theorem ok_is_have (T : Tx P w K mg) : FnOk P w K mg base CX0 10 T.a_is_have T.f_is_have ["table", "spots", "item", "value"] (spD 4 (W_ishave T.a_Sum T.a_Table) K) := by
  refine pd_fn T.F_is_have sc_is_have (fun cdv A outer s H E hr => ⟨_, (pdss_cons (pds_expr (pd_call (ok_expect_question T) (hr.mono (by decide)) (by rfl) T.g_expect_question T.F_expect_question.kp T.b_expect_question (pda_cons (pd_name 0) (pda_cons (pd_name 1) (pda_cons (pd_name 2) pda_nil)))))
      (pdss_cons (pds_if (pdt_w (pdw_or (pdt_not (pdt_val (pd_callB call_isi sc_isi (by rfl) T.n_isinstance (by decide +kernel) (pda_cons (pd_name 3) (pda_cons (pd_bltn (v := .ty "tuple") (d := .ty "tuple") (by rfl) T.n_tuple (by decide +kernel) rfl (fun _ _ => .ty _)) pda_nil))))) (pdw_or (pdt_cmp (op_neD hr.units) sr_ne (pd_callB call_len_seq sc_len (by rfl) T.n_len (by decide +kernel) (pda_cons (pd_name 3) pda_nil)) pd_int (nomark _)) (pdw_or1 (pdt_not (pdt_val (pd_callB call_isi sc_isi (by rfl) T.n_isinstance (by decide +kernel) (pda_cons (pd_ix ix_tup sr_ixT (pd_name 3) pd_int) (pda_cons (pd_bltn (v := .ty "str") (d := .ty "str") (by rfl) T.n_str (by decide +kernel) rfl (fun _ _ => .ty _)) pda_nil))))))))) (pdss_one (pds_ret pd_bl)) pdss_nil)
      (pdss_cons (pds_asg (pd_name 3) (pdg_tup (n := 2) rfl (pdgs_cons (pdg_name 4 sc_is_have.nd) (pdgs_cons (pdg_name 5 sc_is_have.nd) pdgs_nil))))
      (pdss_cons (pds_if (pdt_cmp (op_eqD hr.units) sr_eq (pd_name 4) pd_str (nomark _)) (pdss_one (pds_ret (pd_and (pd_call (ok_is_combination T) (hr.mono (by decide)) (by rfl) T.g_is_combination T.F_is_combination.kp T.b_is_combination (pda_cons (pd_name 0) (pda_cons (pd_name 1) (pda_cons (pd_fg (pd_name 5)) pda_nil)))) (pd_one (pd_cmp (op_ownE T.o_eq T.i_eq (ok_Sum_eq T) T.b_Sum_eq (hr.mono (by decide))) sr_ownE (pd_call (ok_given_sum T) (hr.mono (by decide)) (by rfl) T.g_given_sum T.F_given_sum.kp T.b_given_sum (pda_cons (pd_name 0) (pda_cons (pd_fg (pd_name 5)) pda_nil))) (pd_name 2) (nomark _)))))) pdss_nil)
      (pdss_one (pds_ret (pd_and (pd_cmp (op_eqD hr.units) sr_eq (pd_name 4) pd_str (nomark _)) (pd_one (pd_call (ok_is_blind T) (hr.mono (by decide)) (by rfl) T.g_is_blind T.F_is_blind.kp T.b_is_blind (pda_cons (pd_name 0) (pda_cons (pd_name 1) (pda_cons (pd_lst (pda_cons (pd_name 2) pda_nil)) (pda_cons (pd_fg (pd_name 5)) pda_nil))))))))))))), fun ds M Q hl h => ?_⟩)
  obtain ⟨p, n, SP, rows, cs, y, v, rfl, U, hw, hc, hy, hM, h⟩ := h
  have hsl : sizeLine = 16777216 := by decide
  refine ⟨_, rfl, _, rfl, _, rfl, rfl, p, n, SP, rows, cs, _, y, rfl, U, hw, hc, rfl, hy, ?_⟩
  rcases h with ⟨wd, its, ⟨⟨u, rfl, hu⟩, hok, hl20, hwk⟩, q⟩ | ⟨h, q⟩
  rotate_left
  · cases h with
    | nt t h hn =>
      obtain ⟨hd, hk⟩ := noTup (K := K) h hn
      exact ⟨_, rfl, _, _, _, _, _, false, rfl, hd, .ty "tuple", hk, false, rfl, q⟩
    | ln es h hn =>
      subst h
      refine ⟨_, rfl, _, _, _, _, _, true, rfl, dty rfl, .ty "tuple", kit_ty (by decide +kernel), true, rfl, ?_⟩
      exact ⟨_, rfl, es, .inr rfl, rfl, rfl, true, by rw [eqD_int, decide_eq_false (by omega)]; rfl, q⟩
    | ti es wd h =>
      subst h
      refine ⟨_, rfl, _, _, _, _, _, true, rfl, dty rfl, .ty "tuple", kit_ty (by decide +kernel), true, rfl, ?_⟩
      refine ⟨_, rfl, _, .inr rfl, rfl, rfl, false, rfl, iff0 ?_⟩
      exact ⟨_, rfl, [.tup es, .str wd], 0, .tup es, rfl, rfl, ⟨by decide, rfl⟩, _, _, _, _, _, false, rfl, dty rfl, .ty "str", kit_ty (by decide +kernel), false, rfl, q⟩
    | ts wd u t h hf ht hn hwk =>
      subst h
      refine ⟨_, rfl, _, _, _, _, _, true, rfl, dty rfl, .ty "tuple", kit_ty (by decide +kernel), true, rfl, ?_⟩
      refine ⟨_, rfl, _, .inr rfl, rfl, rfl, false, rfl, iff0 ?_⟩
      refine ⟨_, rfl, [.str wd, u], 0, .str wd, rfl, rfl, ⟨by decide, rfl⟩, _, _, _, _, _, true, rfl, dty rfl, .ty "str", kit_ty (by decide +kernel), true, rfl, ?_⟩
      refine iff0 ⟨_, rfl, _, rfl, rfl, _, _, rfl, _, _, rfl, rfl, ?_⟩
      refine ⟨_, rfl, hwk, (by decide +kernel), decide (wd = "combination"), by rw [eq_str], ?_⟩
      by_cases e1 : wd = "combination"
      · rw [decide_eq_true e1]
        refine iff1 ⟨_, rfl, _, rfl, _, rfl, rfl, p, n, SP, rows, cs, fgD u, rfl, U, .inr ⟨t, by rw [hf]; exact ht, hn, false, rfl, iff0 q⟩⟩
      · rw [decide_eq_false e1]
        refine iff0 ⟨_, rfl, hwk, (by decide +kernel), decide (wd = "blind"), by rw [eq_str], ?_⟩
        by_cases e2 : wd = "blind"
        · rw [decide_eq_true e2]
          exact iff1 ⟨_, rfl, _, rfl, _, rfl, (by show 1 ≤ sizeLine; rw [hsl]; decide), _, rfl, rfl, p, n, SP, rows, cs, y, fgD u, rfl, U, hw, hc, hy, .inr ⟨t, by rw [hf, hf], by rw [hf]; exact ht, hn, q⟩⟩
        · rw [decide_eq_false e2]
          exact iff0 q
  refine ⟨_, rfl, _, _, _, _, _, true, rfl, dty rfl, .ty "tuple", kit_ty (by decide +kernel), true, rfl, ?_⟩
  refine ⟨_, rfl, _, .inr rfl, rfl, rfl, false, rfl, iff0 ?_⟩
  refine ⟨_, rfl, [.str wd, u], 0, .str wd, rfl, rfl, ⟨by decide, rfl⟩, _, _, _, _, _, true, rfl, dty rfl, .ty "str", kit_ty (by decide +kernel), true, rfl, ?_⟩
  refine iff0 ⟨_, rfl, _, rfl, rfl, _, _, rfl, _, _, rfl, rfl, ?_⟩
  refine ⟨_, rfl, hwk, (by decide +kernel), decide (wd = "combination"), by rw [eq_str], ?_⟩
  by_cases e1 : wd = "combination"
  · rw [decide_eq_true e1]
    unfold accB at q
    rw [if_pos e1] at q
    refine iff1 ⟨_, rfl, _, rfl, _, rfl, rfl, p, n, SP, rows, cs, fgD u, rfl, U, .inl ⟨its, hu, hok, hl20, combB p cs its, rfl, ?_⟩⟩
    cases hcb : combB p cs its with
    | false =>
      rw [hcb, Bool.false_and] at q
      exact iff0 q
    | true =>
      rw [hcb, Bool.true_and] at q
      have hall : ∀ it ∈ its, ∃ x k, it = .pr x k ∧ x ∈ tsp rows ∧ 1 ≤ k ∧ k ≤ p - 1 := fun it hit => by
        have h1 : its.all (prB p cs) = true := by
          unfold combB at hcb
          exact (Bool.and_eq_true_iff.mp hcb).1
        obtain ⟨x, k, e, hx, h2, h3⟩ := prB_pr (List.all_eq_true.mp h1 it hit)
        exact ⟨x, k, e, hc.inn x hx, h2, h3⟩
      refine iff1 ⟨_, rfl, _, rfl, rfl, p, n, SP, rows, its, by rw [hu], U, hw, hall, hM, ?_⟩
      exact ⟨_, rfl, _, _, rfl, .ins T.c_Sum, T.nf_Sum, p, _, y, rfl, q⟩
  · rw [decide_eq_false e1]
    unfold accB at q
    rw [if_neg e1] at q
    refine iff0 ⟨_, rfl, hwk, (by decide +kernel), decide (wd = "blind"), by rw [eq_str], ?_⟩
    by_cases e2 : wd = "blind"
    · rw [decide_eq_true e2]
      rw [if_pos e2] at q
      exact iff1 ⟨_, rfl, _, rfl, _, rfl, (by show 1 ≤ sizeLine; rw [hsl]; decide), _, rfl, rfl, p, n, SP, rows, cs, y, fgD u, rfl, U, hw, hc, hy, .inl ⟨its, by rw [hu]; rfl, hl20, q⟩⟩
    · rw [decide_eq_false e2]
      rw [if_neg e2] at q
      exact iff0 q
end
end X
end K11
set_option Elab.async false
set_option linter.all false
set_option maxRecDepth 100000
set_option maxHeartbeats 4000000
namespace K11
open PySem PySem.Spec PyProof.Rows L2 Pd Spc
theorem _root_.Pd.Cu.tr {k : Nat} {M M1 M2 : Ms} (c : Cu k M M1) (d : Cu k M1 M2) : Cu k M M2 := by
  obtain ⟨n, s, a, b, rfl⟩ := d
  exact c.set a b
theorem Src.at {M : Ms} (h : Src M) : SrcAt 0 M := by
  obtain ⟨n, s, rfl, a, b⟩ := h
  exact ⟨n, s, rfl, a, b⟩
theorem Src.cu {M M' : Ms} (h : Src M) (c : Cu 0 M M') : Src M' := by
  obtain ⟨n, s, rfl, a, b⟩ := h
  obtain ⟨n', s', a', b', rfl⟩ := c
  exact ⟨n', s', rfl, a', b'⟩
/-- the rows of p numbers below n, ascending -/
def tups (p : Nat) : Nat → List (List Int)
  | 0 => [[]]
  | n + 1 => (tups p n).flatMap fun xs => (List.range p).map fun (v : Nat) => xs ++ [(v : Int)]
theorem u21 : Univ 2 1 SP21 := univ_of (by decide) (by decide) (by decide) (by decide) ⟨6, rfl, by decide⟩ shp21 good21
theorem u22 : Univ 2 2 SP22 := univ_of (by decide) (by decide) (by decide) (by decide) ⟨6, rfl, by decide⟩ shp22 good22
theorem u23 : Univ 2 3 SP23 := univ_of (by decide) (by decide) (by decide) (by decide) ⟨6, rfl, by decide⟩ shp23 good23
theorem u24 : Univ 2 4 SP24 := univ_of (by decide) (by decide) (by decide) (by decide) ⟨6, rfl, by decide⟩ shp24 good24
theorem u31 : Univ 3 1 SP31 := univ_of (by decide) (by decide) (by decide) (by decide) ⟨6, rfl, by decide⟩ shp31 good31
theorem u32 : Univ 3 2 SP32 := univ_of (by decide) (by decide) (by decide) (by decide) ⟨6, rfl, by decide⟩ shp32 good32
theorem u33 : Univ 3 3 SP33 := univ_of (by decide) (by decide) (by decide) (by decide) ⟨6, rfl, by decide⟩ shp33 good33
theorem u52 : Univ 5 2 SP52 := univ_of (by decide) (by decide) (by decide) (by decide) ⟨5, rfl, by decide⟩ shp52 good52
theorem u72 : Univ 7 2 SP72 := univ_of (by decide) (by decide) (by decide) (by decide) ⟨4, rfl, by decide⟩ shp72 good72
section
variable {P : Program} {w : World} {K : PySem.W.Frag} {mg : Str → Option Value} {base : Heap}
def W_pick : DC := fun ds M Q => ∃ es : List D, ds = [.mu 0, .lst es] ∧ SrcAt 0 M ∧ 0 < (es.length : Int) ∧ (es.length : Int) < 1073741824 ∧ ∀ d M', Cu 0 M M' → d ∈ es → Q d M'
theorem ok_law_pick (T : Tx P w K mg) : FnOk P w K mg base CX0 2 T.a_law_pick T.f_law_pick ["_law_source_here", "_law_items"] (spD 2 W_pick K) := by
  refine pd_fn T.F_law_pick sc_law_pick (fun cdv A outer s H E hr => ⟨_, (pdss_one (pds_ret (pd_ix ix_list sr_ixL (pd_name 1) (pd_call (ok_law_draw T) (hr.mono (by decide)) (by rfl) T.g_law_draw T.F_law_draw.kp T.b_law_draw (pda_cons (pd_name 0) (pda_cons (pd_callB call_len_seq sc_len (by rfl) T.n_len (by decide +kernel) (pda_cons (pd_name 1) pda_nil)) pda_nil)))))), fun ds M Q hl h => ?_⟩)
  obtain ⟨es, rfl, hs, h1, h2, q⟩ := h
  refine ⟨_, rfl, .mu 0, rfl, _, rfl, es, .inl rfl, rfl, _, rfl, hs, h1, h2, fun r M' hs' r0 r1 => ?_⟩
  have hlt : r.toNat < es.length := by omega
  exact ⟨es, r, _, rfl, rfl, ⟨r0, List.getElem?_eq_getElem hlt⟩, q _ _ hs' (List.getElem_mem hlt)⟩
def W_value : DC := fun ds M Q => ∃ d e p fs xs, ds = [d, e, .int p] ∧ SumOk p fs ∧ isSeq d (dI fs) ∧ isSeq e (dI xs) ∧ Q (.int (vsum fs xs % p)) M
theorem ok_law_value (T : Tx P w K mg) : FnOk P w K mg base CX0 1 T.a_law_value T.f_law_value ["_law_factors_here", "_law_data", "_law_prime"] (spD 3 W_value K) := by
  refine pd_fn T.F_law_value sc_law_value (fun cdv A outer s H E hr => ⟨_, (pdss_one (pds_ret (pd_op op_mod sr_I (pd_callTy call_int1 sc_int (by rfl) T.n_int (by decide +kernel) (pda_cons (pd_callB (cr_sum rfl) sc_sum (by rfl) T.n_sum (by decide +kernel) (pda_cons (pd_lc [("_law_one", 3), ("_law_two", 4)] rfl sc_law_value.nd (pdi_zip (by rfl) T.n_zip (pda_cons (pd_name 0) (pda_cons (pd_name 1) pda_nil))) (blkOk_by (N := ["_law_factors_here", "_law_data", "_law_prime", "_law_one", "_law_two"]) (sc := defScope s_law_value) (by decide +kernel)) (fun _ _ _ _ _ => (pdg_tup (n := 2) rfl (pdgs_cons (pdg_name 3 sc_law_value.nd) (pdgs_cons (pdg_name 4 sc_law_value.nd) pdgs_nil)))) (fun _ _ _ _ _ => pdts_nil) (fun _ _ _ _ _ => (pd_op op_mul sr_I (pd_name 3) (pd_name 4)))) pda_nil)) pda_nil)) (pd_name 2)))), fun ds M Q hl h => ?_⟩)
  obtain ⟨d, e, p, fs, xs, rfl, h1, hd, he, q⟩ := h
  refine ⟨d, rfl, e, rfl, d, e, dI fs, dI xs, rfl, hd, he, ?_⟩
  refine lc_map (on2 fun a b => a * b) _ _ (fun e he R hR => ?_) (Nat.le_trans (by simpa using pairs_size fs xs) (small' h1)) ?_
  · obtain ⟨a, b, ha, hb, rfl⟩ := pairs_mem _ _ _ he
    have := h1.mem ha
    exact ⟨_, rfl, rfl, _, _, rfl, _, _, rfl, rfl, .int a, rfl, .int b, rfl, a, b, rfl, rfl, .inl ⟨by omega, by omega⟩, hR⟩
  · rw [List.nil_append, pairs_map]
    exact ⟨_, rfl, .inl ⟨_, rfl, .int p, rfl, _, p, rfl, rfl, h1.pos.1, q⟩⟩
def W_lfactors : DC := fun ds M Q => ∃ (p : Int) (n : Nat), ds = [.mu 0, .int p, .int n] ∧ SrcAt 0 M ∧ 0 < p ∧ p < 1000 ∧ n < 1000 ∧ ∀ fs M', Cu 0 M M' → fs.length = n → In p fs → Q (.tup (dI fs)) M'
theorem ok_law_factors (T : Tx P w K mg) : FnOk P w K mg base CX0 2 T.a_law_factors T.f_law_factors ["_law_source_here", "_law_prime", "_law_size"] (spD 3 W_lfactors K) := by
  refine pd_fn T.F_law_factors sc_law_factors (fun cdv A outer s H E hr => ⟨_, (pdss_one (pds_ret (pd_callTy call_tuple_of sc_tuple (by rfl) T.n_tuple (by decide +kernel) (pda_cons (pd_lc [("_law_place", 3)] rfl sc_law_factors.nd (pdi_range1 (by rfl) T.n_range (pda_cons (pd_name 2) pda_nil)) (blkOk_by (N := ["_law_source_here", "_law_prime", "_law_size", "_law_place"]) (sc := defScope s_law_factors) (by decide +kernel)) (fun _ _ _ _ _ => (pdg_name 3 sc_law_factors.nd)) (fun _ _ _ _ _ => pdts_nil) (fun _ _ _ _ _ => (pd_call (ok_law_draw T) (hr.mono (by decide)) (by rfl) T.g_law_draw T.F_law_draw.kp T.b_law_draw (pda_cons (pd_name 0) (pda_cons (pd_name 1) pda_nil))))) pda_nil)))), fun ds M Q hl h => ?_⟩)
  obtain ⟨p, n, rfl, hs, h1, h2, h3, q⟩ := h
  refine ⟨.int n, rfl, n, rfl, by omega, by omega, ?_⟩
  have hN : n ≤ sizeLine := Nat.le_trans (Nat.le_of_lt h3) (by decide)
  refine lc_ind (fun acc M' => Cu 0 M M' ∧ ∃ fs, acc = dI fs ∧ In p fs) n hN (fun d acc M' R hI hlt hR => ?_) (fun acc M' hI hlen => ?_) _ _ _ ⟨Cu.mk0 hs, [], rfl, fun _ h => nomatch h⟩ (by rw [rng_len]; simp)
  · obtain ⟨hc, fs, rfl, hin⟩ := hI
    refine ⟨.mu 0, rfl, .int p, rfl, rfl, p, rfl, hc.src hs.lt, h1, by omega, fun r M2 hc2 r0 r1 => hR _ _ ⟨hc.tr hc2, fs ++ [r], by simp, fun x hx => ?_⟩⟩
    rcases List.mem_append.mp hx with hx | hx
    · exact hin x hx
    · rw [List.mem_singleton.mp hx]; exact ⟨r0, r1⟩
  · obtain ⟨hc, fs, rfl, hin⟩ := hI
    exact ⟨_, _, rfl, .inl rfl, q fs M' hc (by simpa using hlen) hin⟩
def W_form : DC := fun ds M Q => ds = [.mu 0] ∧ SrcAt 0 M ∧ ∀ (p : Int) (n : Nat) (SP : List (List Rw)) M', Cu 0 M M' → Univ p n SP → Q (.tup [.int p, .int n]) M'
theorem ok_law_form (T : Tx P w K mg) : FnOk P w K mg base CX0 3 T.a_law_form T.f_law_form ["_law_source_here"] (spD 1 W_form K) := by
  refine pd_fn T.F_law_form sc_law_form (fun cdv A outer s H E hr => ⟨_, (pdss_one (pds_ret (pd_call (ok_law_pick T) (hr.mono (by decide)) (by rfl) T.g_law_pick T.F_law_pick.kp T.b_law_pick (pda_cons (pd_name 0) (pda_cons (pd_lst (pda_cons (pd_tup (pda_cons pd_int (pda_cons pd_int pda_nil))) (pda_cons (pd_tup (pda_cons pd_int (pda_cons pd_int pda_nil))) (pda_cons (pd_tup (pda_cons pd_int (pda_cons pd_int pda_nil))) (pda_cons (pd_tup (pda_cons pd_int (pda_cons pd_int pda_nil))) (pda_cons (pd_tup (pda_cons pd_int (pda_cons pd_int pda_nil))) (pda_cons (pd_tup (pda_cons pd_int (pda_cons pd_int pda_nil))) (pda_cons (pd_tup (pda_cons pd_int (pda_cons pd_int pda_nil))) (pda_cons (pd_tup (pda_cons pd_int (pda_cons pd_int pda_nil))) (pda_cons (pd_tup (pda_cons pd_int (pda_cons pd_int pda_nil))) pda_nil)))))))))) pda_nil))))), fun ds M Q hl h => ?_⟩)
  obtain ⟨rfl, hs, q⟩ := h
  refine ⟨.mu 0, rfl, by decide, by decide, by decide, by decide, by decide, by decide, by decide, by decide, by decide, by decide, rfl, _, rfl, hs, by decide, by decide, fun d M' hs' hd => ?_⟩
  simp only [List.mem_cons, List.not_mem_nil, or_false] at hd
  rcases hd with rfl | rfl | rfl | rfl | rfl | rfl | rfl | rfl | rfl
  · exact q 2 1 _ M' hs' u21
  · exact q 2 2 _ M' hs' u22
  · exact q 2 3 _ M' hs' u23
  · exact q 2 4 _ M' hs' u24
  · exact q 3 1 _ M' hs' u31
  · exact q 3 2 _ M' hs' u32
  · exact q 3 3 _ M' hs' u33
  · exact q 5 2 _ M' hs' u52
  · exact q 7 2 _ M' hs' u72
end
end K11
set_option Elab.async false
set_option linter.all false
set_option maxRecDepth 100000
set_option maxHeartbeats 4000000
namespace K11
open PySem PySem.Spec PyProof.Rows L2 Pd Spc
theorem zs_fold {p : Int} {n : Nat} {SP : List (List Rw)} (U : Univ p n SP) : ∀ (rows : List Rw) (R : List Rw), R ∈ SP → (∀ y ∈ rows, y ∈ allD p n) → zs p n (rows.foldl (Spc.step p) R) = (zs p n R).filter fun d => rows.all fun r => dot r d p == 0
  | [], R, _, _ => by
    show zs p n R = _
    exact (List.filter_eq_self.mpr fun d _ => rfl).symm
  | y :: rows, R, hR, h => by
    obtain ⟨s1, s2, _, _⟩ := U.step R hR y (h y List.mem_cons_self)
    show zs p n (rows.foldl (Spc.step p) (Spc.step p R y)) = _
    rw [zs_fold U rows _ s1 (fun z hz => h z (List.mem_cons_of_mem _ hz)), s2, List.filter_filter]
    congr 1
    funext d
    rw [List.all_cons, Bool.and_comm]
theorem apSumT (k : Nat) (p : Int) (y : Rw) : apartF k [("_prime", .int p), ("_factors", .tup (dI y))] = true := by
  show (true && (apartA k (dI y) && true)) = true
  rw [apartA_ints]; rfl
theorem lc_indT {g : DG} {tt : DT} {te : DE} {ρ : Rho} {P : D → Ms → Prop} (I : Nat → List D → Ms → Prop) (ds0 : List D) (hN : ds0.length ≤ sizeLine) (hlen : ∀ k acc M, I k acc M → acc.length ≤ k)
    (step : ∀ (k : Nat) (d : D) (acc : List D) (M : Ms) (R : D → Ms → Prop) (S : Ms → Prop), ds0[k]? = some d → I k acc M → (∀ y M2, I (k + 1) (acc ++ [y]) M2 → R y M2) → (∀ M2, I (k + 1) acc M2 → S M2) → g d ρ fun ρ' => tt ρ' M fun b M1 => if b = true then te ρ' M1 R else S M1)
    (fin : ∀ acc M, I ds0.length acc M → P (.lst acc) M) {M : Ms} (h : I 0 [] M) : lcRun g tt te ρ P ds0 [] M := by
  have key : ∀ (r : List D) (k : Nat) (acc : List D) (M : Ms), ds0.drop k = r → k + r.length = ds0.length → I k acc M → lcRun g tt te ρ P r acc M := by
    intro r
    induction r with
    | nil =>
      intro k acc M _ hl h
      have : k = ds0.length := by simpa using hl
      subst this
      exact fin acc M h
    | cons d r ih =>
      intro k acc M hd hl h
      rw [List.length_cons] at hl
      have hk : k < ds0.length := by omega
      rw [List.drop_eq_getElem_cons hk] at hd
      injection hd with h1 h2
      have hl2 := hlen k acc M h
      exact step k d acc M (fun y M2 => acc.length < sizeLine ∧ lcRun g tt te ρ P r (acc ++ [y]) M2) (fun M2 => lcRun g tt te ρ P r acc M2) (by rw [List.getElem?_eq_getElem hk, h1]) h (fun y M2 hI => ⟨by omega, ih (k + 1) _ M2 h2 (by omega) hI⟩) fun M2 hI => ih (k + 1) _ M2 h2 (by omega) hI
  exact key ds0 0 [] M rfl (by omega) h
/-- pieces of one or two parts -/
def Pcs (p : Int) (n : Nat) (rows : List (List (List Int))) : Prop := ∀ ps ∈ rows, 1 ≤ ps.length ∧ ps.length ≤ 2 ∧ ∀ fs ∈ ps, fs ∈ allD p n
theorem sum_le2 : ∀ rows : List (List (List Int)), (∀ ps ∈ rows, ps.length ≤ 2) → (rows.map List.length).sum ≤ 2 * rows.length
  | [], _ => Nat.zero_le _
  | ps :: r, h => by
    have ih := sum_le2 r fun x hx => h x (List.mem_cons_of_mem _ hx)
    have := h ps List.mem_cons_self
    rw [List.map_cons, List.sum_cons, List.length_cons]
    omega
theorem Pcs.ok {p : Int} {n : Nat} {rows : List (List (List Int))} (h : Pcs p n rows) (h1 : 1 ≤ rows.length) (h5 : rows.length ≤ 5) : RwOk p n rows :=
  ⟨h1, by omega, fun ps hp => ⟨(h ps hp).1, by have := (h ps hp).2.1; omega, (h ps hp).2.2⟩, by have := sum_le2 rows fun ps hp => (h ps hp).2.1; omega⟩
theorem clean_p (p n m : Int) (x5 x6 x7 : Option D) : ∃ y5 y6 y7, clean 1 [some (.mu 0), some (.int p), some (.int n), some (.int m), some (.mu 1), x5, x6, x7] = [some (.mu 0), some (.int p), some (.int n), some (.int m), none, y5, y6, y7] := ⟨_, _, _, rfl⟩
section
variable {P : Program} {w : World} {K : PySem.W.Frag} {mg : Str → Option Value} {base : Heap}
def W_lpieces : DC := fun ds M Q => ∃ (p : Int) (n : Nat) (SP : List (List Rw)), ds = [.mu 0, .int p, .int n, .int 5] ∧ Src M ∧ Univ p n SP ∧ ∀ rows M', Src M' → RwOk p n rows → Q (.tup (rows.map tP)) M'
theorem ok_law_pieces (T : Tx P w K mg) : FnOk P w K mg base CX0 3 T.a_law_pieces T.f_law_pieces ["_law_source_here", "_law_prime", "_law_size", "_law_most"] (spD 4 W_lpieces K) := by
  refine pd_fn T.F_law_pieces sc_law_pieces (fun cdv A outer s H E hr => ⟨_, (pdss_build (i := 4) sc_law_pieces.nd (pds_for PassesOwn.never rfl (pdi_range1 (by rfl) T.n_range (pda_cons (pd_op op_add sr_I0i pd_int (pd_call (ok_law_draw T) (hr.mono (by decide)) (by rfl) T.g_law_draw T.F_law_draw.kp T.b_law_draw (pda_cons (pd_name 0) (pda_cons (pd_op op_sub sr_I0i (pd_name 3) pd_int) pda_nil)))) pda_nil)) (pdg_name 5 sc_law_pieces.nd) (pdss_cons (pds_set 6 sc_law_pieces.nd (pd_op op_add sr_I0i pd_int (pd_callTy call_int1 sc_int (by rfl) T.n_int (by decide +kernel) (pda_cons (pd_cmp (op_eqD hr.units) sr_eq (pd_call (ok_law_draw T) (hr.mono (by decide)) (by rfl) T.g_law_draw T.F_law_draw.kp T.b_law_draw (pda_cons (pd_name 0) (pda_cons pd_int pda_nil))) pd_int (nomark _)) pda_nil))))
      (pdss_one (pds_expr (pd_append 4 (pd_callTy call_tuple_of sc_tuple (by rfl) T.n_tuple (by decide +kernel) (pda_cons (pd_lc [("_law_part", 7)] rfl sc_law_pieces.nd (pdi_range1 (by rfl) T.n_range (pda_cons (pd_name 6) pda_nil)) (blkOk_by (N := ["_law_source_here", "_law_prime", "_law_size", "_law_most", "_law_pieces_here", "_law_index", "_law_parts", "_law_part"]) (sc := defScope s_law_pieces) (by decide +kernel)) (fun _ _ _ _ _ => (pdg_name 7 sc_law_pieces.nd)) (fun _ _ _ _ _ => pdts_nil) (fun _ _ _ _ _ => (pd_call (ok_law_factors T) (hr.mono (by decide)) (by rfl) T.g_law_factors T.F_law_factors.kp T.b_law_factors (pda_cons (pd_name 0) (pda_cons (pd_name 1) (pda_cons (pd_name 2) pda_nil)))))) pda_nil)))))))
      (pdss_one (pds_ret (pd_callTy call_tuple_of sc_tuple (by rfl) T.n_tuple (by decide +kernel) (pda_cons (pd_name 4) pda_nil))))), fun ds M Q hl h => ?_⟩)
  obtain ⟨p, n, SP, rfl, hs, U, q⟩ := h
  obtain ⟨n0, s0, rfl, h0, h1⟩ := hs
  have hsl : sizeLine = 16777216 := by decide
  have hp2 := U.p2
  have hp7 := U.p7
  have hn4 := U.n4
  have hs1 : SrcAt 0 [MO.lst [.int n0, .int s0], .lst []] := ⟨n0, s0, rfl, h0, h1⟩
  refine ⟨.mu 0, rfl, .int 5, rfl, 5, 1, rfl, rfl, rfl, _, rfl, hs1, by decide, by decide, fun r M2 hc r0 r1 => ?_⟩
  obtain ⟨n2, s2, a2, b2, rfl⟩ := hc
  have r5 : r < 4 := r1
  refine ⟨_, _, rfl, rfl, 2 + r, rfl, by omega, by omega, ?_⟩
  refine for_ind (fun k ρ M' => ∃ (nn s : Int) (rows : List (List (List Int))) (x5 x6 x7 : Option D), 0 ≤ s ∧ s < 2147483647 ∧ M' = [.lst [.int nn, .int s], .lst (rows.map tP)] ∧ rows.length = k ∧ Pcs p n rows ∧ ρ = [some (.mu 0), some (.int p), some (.int n), some (.int 5), some (.mu 1), x5, x6, x7]) _ ?_ ?_ ⟨n2, s2, [], none, none, none, a2, b2, rfl, rfl, (fun _ h => nomatch h), rfl⟩
  · rintro k d ρ M' N hd ⟨nn, s, rows, x5, x6, x7, a3, b3, rfl, hk, hv, rfl⟩ hN
    have hkl : k < (2 + r).toNat := by have := (List.getElem?_eq_some_iff.mp hd).1; rwa [rng_len] at this
    have hs3 : SrcAt 0 [MO.lst [.int nn, .int s], .lst (rows.map tP)] := ⟨nn, s, rfl, a3, b3⟩
    refine ⟨.mu 0, rfl, rfl, 3, rfl, hs3, by decide, by decide, fun r4 M4 hc4 _ _ => ?_⟩
    obtain ⟨n4, s4, a4, b4, rfl⟩ := hc4
    have hs4 : SrcAt 0 [MO.lst [.int n4, .int s4], .lst (rows.map tP)] := ⟨n4, s4, rfl, a4, b4⟩
    refine ⟨rfl, rfl, .inr ⟨_, rfl, _, _, rfl, rfl, ?_⟩⟩
    have hb : ∀ b : Bool, (1 : Int) ≤ 1 + (if b = true then 1 else 0) ∧ (1 : Int) + (if b = true then 1 else 0) ≤ 2 := fun b => by cases b <;> decide
    obtain ⟨c1, c2⟩ := hb (eqD (.int r4) (.int 0))
    refine ⟨1, rfl, ⟨_, rfl⟩, .int _, rfl, _, rfl, by omega, by omega, ?_⟩
    generalize (1 : Int) + (if eqD (.int r4) (.int 0) = true then 1 else 0) = c at c1 c2
    refine lc_ind (fun acc M' => Cu 0 [.lst [.int n4, .int s4], .lst (rows.map tP)] M' ∧ ∃ fss : List (List Int), acc = fss.map tI ∧ ∀ fs ∈ fss, fs ∈ allD p n) c.toNat (by omega) (fun d acc M' R hI hlt hR => ?_) (fun acc M' hI hlen => ?_) _ _ _ ⟨Cu.mk0 hs4, [], rfl, fun _ h => nomatch h⟩ (by rw [rng_len]; simp)
    · obtain ⟨hc5, fss, rfl, hin⟩ := hI
      refine ⟨.mu 0, rfl, .int p, rfl, .int n, rfl, rfl, p, n, rfl, hc5.src hs4.lt, by omega, by omega, by omega, fun fs M5 hc6 l1 l2 => hR _ _ ⟨hc5.tr hc6, fss ++ [fs], by rw [List.map_append]; rfl, fun x hx => ?_⟩⟩
      rcases List.mem_append.mp hx with hx | hx
      · exact hin x hx
      · rw [List.mem_singleton.mp hx]; exact mem_allD (by omega) l1 l2
    · obtain ⟨hc5, fss, rfl, hin⟩ := hI
      obtain ⟨n5, s5, a5, b5, rfl⟩ := hc5
      rw [List.length_map] at hlen
      refine ⟨_, _, rfl, .inl rfl, _, rfl, (by rw [List.length_map]; omega), hN _ _ ⟨n5, s5, rows ++ [fss], _, _, _, a5, b5, by rw [List.map_append]; rfl, by rw [List.length_append, hk]; rfl, fun ps hp => ?_, rfl⟩⟩
      rcases List.mem_append.mp hp with hp | hp
      · exact hv ps hp
      · rw [List.mem_singleton.mp hp]; exact ⟨by omega, by omega, hin⟩
  · rintro ρ M' ⟨nn, s, rows, x5, x6, x7, a3, b3, rfl, hk, hv, rfl⟩
    rw [rng_len] at hk
    obtain ⟨y5, y6, y7, ec⟩ := clean_p p n 5 x5 x6 x7
    refine ⟨[.lst [.int nn, .int s]], rows.map tP, rfl, rfl, rfl, ap_tP _ _, rfl, ?_⟩
    refine at_rho (congrArg (fun ρ => List.set ρ 4 (some (D.lst (rows.map tP)))) ec) ?_
    exact ⟨_, rfl, _, _, rfl, .inl rfl, q rows _ ⟨nn, s, rfl, a3, b3⟩ (hv.ok (by omega) (by omega))⟩
end
end K11
set_option Elab.async false
set_option linter.all false
set_option maxRecDepth 100000
set_option maxHeartbeats 4000000
namespace K11
open PySem PySem.Spec PyProof.Rows L2 Pd Spc
theorem spots_snoc (d : D) : ∀ (xs : List D) (i : Nat), spotsFrom i (xs ++ [d]) = spotsFrom i xs ++ (List.range (rowLen d)).map fun (j : Nat) => [((i + xs.length : Nat) : Int), (j : Int)]
  | [], i => by
    show ((List.range (rowLen d)).map fun (j : Nat) => [(i : Int), (j : Int)]) ++ [] = [] ++ _
    rw [List.append_nil]; rfl
  | x :: xs, i => by
    show _ ++ spotsFrom (i + 1) (xs ++ [d]) = (_ ++ spotsFrom (i + 1) xs) ++ _
    rw [spots_snoc d xs (i + 1), List.append_assoc, show i + 1 + xs.length = i + (x :: xs).length by rw [List.length_cons]; omega]
theorem rng_part (k : Int) (m : Nat) : (rng 0 m).map (fun d => D.tup [.int k, d]) = ((List.range m).map fun (j : Nat) => [k, (j : Int)]).map tI := by
  unfold rng
  rw [List.map_map, List.map_map]
  refine List.map_congr_left fun j _ => ?_
  show D.tup [.int k, .int (0 + (j : Int))] = D.tup [.int k, .int (j : Int)]
  rw [Int.zero_add]
section
variable {P : Program} {w : World} {K : PySem.W.Frag} {mg : Str → Option Value} {base : Heap}
def W_lspots : DC := fun ds M Q => ∃ (p : Int) (n : Nat) (rows : List (List (List Int))), ds = [.tup (rows.map tP)] ∧ RwOk p n rows ∧ Q (.lst ((tsp rows).map tI)) M
theorem ok_law_spots (T : Tx P w K mg) : FnOk P w K mg base CX0 1 T.a_law_spots T.f_law_spots ["_law_pieces_here"] (spD 1 W_lspots K) := by
  refine pd_fn T.F_law_spots sc_law_spots (fun cdv A outer s H E hr => ⟨_, (pdss_cons (pds_set 1 sc_law_spots.nd (pd_lst pda_nil))
      (pdss_cons (pds_for PassesOwn.never rfl (pdi_range1 (by rfl) T.n_range (pda_cons (pd_callB call_len_seq sc_len (by rfl) T.n_len (by decide +kernel) (pda_cons (pd_name 0) pda_nil)) pda_nil)) (pdg_name 2 sc_law_spots.nd) (pdss_one (pds_set 1 sc_law_spots.nd (pd_op op_catL sr_catL (pd_name 1) (pd_lc [("_law_part", 3)] rfl sc_law_spots.nd (pdi_range1 (by rfl) T.n_range (pda_cons (pd_callB call_len_seq sc_len (by rfl) T.n_len (by decide +kernel) (pda_cons (pd_ix ix_tup sr_ixT (pd_name 0) (pd_name 2)) pda_nil)) pda_nil)) (blkOk_by (N := ["_law_pieces_here", "_law_found", "_law_piece", "_law_part"]) (sc := defScope s_law_spots) (by decide +kernel)) (fun _ _ _ _ _ => (pdg_name 3 sc_law_spots.nd)) (fun _ _ _ _ _ => pdts_nil) (fun _ _ _ _ _ => (pd_tup (pda_cons (pd_name 2) (pda_cons (pd_name 3) pda_nil)))))))))
      (pdss_one (pds_ret (pd_name 1))))), fun ds M Q hl h => ?_⟩)
  obtain ⟨p, n, rows, rfl, hw, q⟩ := h
  have hsl : sizeLine = 16777216 := by decide
  have h6 := hw.l6
  have h10 := tsp_len hw
  refine ⟨by decide, _, rfl, rows.map tP, .inr rfl, _, rfl, by rw [List.length_map]; omega, by rw [List.length_map]; omega, ?_⟩
  rw [show ((rows.map tP).length : Int).toNat = rows.length by rw [List.length_map, Int.toNat_natCast]]
  refine for_ind (fun k ρ M' => M' = M ∧ ∃ x2 x3, ρ = [some (.tup (rows.map tP)), some (.lst ((spotsFrom 0 ((rows.take k).map tP)).map tI)), x2, x3]) _ ?_ ?_ ⟨rfl, none, none, rfl⟩
  · rintro k d ρ M' N hd ⟨rfl, x2, x3, rfl⟩ hN
    have hk : k < rows.length := by have := (List.getElem?_eq_some_iff.mp hd).1; rwa [rng_len] at this
    have ed : d = .int (k : Int) := by
      have h := hd
      unfold rng at h
      rw [List.getElem?_map, List.getElem?_range hk] at h
      cases h
      show D.int (0 + (k : Int)) = _
      rw [Int.zero_add]
    subst ed
    have hp3 := (hw.ps _ (List.getElem_mem hk)).2.1
    have hg : (rows.map tP)[((k : Nat) : Int).toNat]? = some (tP rows[k]) := by rw [Int.toNat_natCast, List.getElem?_map, List.getElem?_eq_getElem hk]; rfl
    have hsn := spots_snoc (tP rows[k]) ((rows.take k).map tP) 0
    rw [← List.map_singleton (f := tP), ← List.map_append, ← List.take_succ_eq_append_getElem hk, List.length_map, List.length_take, Nat.min_eq_left (Nat.le_of_lt hk), Nat.zero_add, rowLen_tP] at hsn
    have hsz : (spotsFrom 0 ((rows.take k).map tP)).length ≤ 3 * 6 := Nat.le_trans (spots_len _ _ fun d hd => by
      obtain ⟨ps, hps, rfl⟩ := List.mem_map.mp hd
      rw [rowLen_tP]
      exact (hw.ps _ (List.mem_of_mem_take hps)).2.1) (Nat.mul_le_mul_left 3 (by rw [List.length_map, List.length_take]; omega))
    generalize rows[k] = ps at hp3 hg hsn
    refine ⟨_, rfl, _, rfl, .int (k : Int), rfl, _, _, _, rfl, rfl, ⟨Int.natCast_nonneg _, hg⟩, ps.map tI, .inr rfl, _, rfl, by omega, by rw [List.length_map]; omega, ?_⟩
    refine lc_map (fun d => .tup [.int (k : Int), d]) _ _ (fun d _ R hR => ⟨_, rfl, _, rfl, (by show 2 ≤ sizeLine; decide), hR⟩) ?_ ?_
    · rw [rng_len, List.length_nil, Int.toNat_natCast, List.length_map]; omega
    · refine ⟨_, _, rfl, rfl, ?_, ?_⟩
      · rw [List.nil_append, List.length_map, List.length_map, rng_len, Int.toNat_natCast, List.length_map]; omega
      · rw [List.nil_append, rng_part, ← List.map_append, Int.toNat_natCast, List.length_map, ← hsn]
        exact hN _ _ ⟨rfl, _, _, rfl⟩
  · rintro ρ M' ⟨rfl, x2, x3, rfl⟩
    rw [rng_len, List.take_length]
    exact ⟨_, rfl, q⟩
def W_lsome : DC := fun ds M Q => ∃ xs : List (List Int), ds = [.mu 0, .lst (xs.map tI), .int 2] ∧ Src M ∧ xs.length ≤ 10 ∧ ∀ (ys : List (List Int)) M', Src M' → ys.Sublist xs → Q (.lst (ys.map tI)) M'
theorem ok_law_some (T : Tx P w K mg) : FnOk P w K mg base CX0 2 T.a_law_some T.f_law_some ["_law_source_here", "_law_items", "_law_chance"] (spD 3 W_lsome K) := by
  refine pd_fn T.F_law_some sc_law_some (fun cdv A outer s H E hr => ⟨_, (pdss_one (pds_ret (pd_lc [("_law_item", 3)] rfl sc_law_some.nd (pdi_list (pd_name 1)) (blkOk_by (N := ["_law_source_here", "_law_items", "_law_chance", "_law_item"]) (sc := defScope s_law_some) (by decide +kernel)) (fun _ _ _ _ _ => (pdg_name 3 sc_law_some.nd)) (fun _ _ _ _ _ => pdts_one (pdt_cmp (op_eqD hr.units) sr_eq (pd_call (ok_law_draw T) (hr.mono (by decide)) (by rfl) T.g_law_draw T.F_law_draw.kp T.b_law_draw (pda_cons (pd_name 0) (pda_cons (pd_name 2) pda_nil))) pd_int (nomark _))) (fun _ _ _ _ _ => (pd_name 3))))), fun ds M Q hl h => ?_⟩)
  obtain ⟨xs, rfl, hs, hx, q⟩ := h
  have hsl : sizeLine = 16777216 := by decide
  refine ⟨_, rfl, _, rfl, lc_indT (fun k acc M' => Src M' ∧ ∃ ys : List (List Int), acc = ys.map tI ∧ ys.Sublist (xs.take k)) _ (by rw [List.length_map]; omega) (fun k acc M h => by
    obtain ⟨_, ys, rfl, h⟩ := h
    have := h.length_le
    rw [List.length_take] at this
    rw [List.length_map]; omega) (fun k d acc M' R S hd hI hR hS => ?_) (fun acc M' hI => ?_) ⟨hs, [], rfl, List.nil_sublist _⟩⟩
  · obtain ⟨hs', ys, rfl, hsub⟩ := hI
    have hk : k < xs.length := by have := (List.getElem?_eq_some_iff.mp hd).1; rwa [List.length_map] at this
    rw [List.getElem?_map, List.getElem?_eq_getElem hk] at hd
    cases hd
    rw [List.take_succ_eq_append_getElem hk] at hR hS
    refine ⟨.mu 0, rfl, .int 2, rfl, rfl, 2, rfl, hs'.at, by decide, by decide, fun r M2 hc _ _ => ⟨rfl, rfl, _, rfl, ?_⟩⟩
    exact bsplit (fun _ => ⟨_, rfl, hR _ _ ⟨hs'.cu hc, ys ++ [xs[k]], by rw [List.map_append]; rfl, hsub.append (List.Sublist.refl _)⟩⟩) fun _ => hS _ ⟨hs'.cu hc, ys, rfl, hsub.trans (List.sublist_append_left _ _)⟩
  · obtain ⟨hs', ys, rfl, hsub⟩ := hI
    rw [List.length_map, List.take_length] at hsub
    exact q ys M' hs' hsub
def W_shown : DC := fun ds M Q => ∃ (p : Int) (n : Nat) (SP : List (List Rw)) (rows : List (List (List Int))) (x y : List Int), ds = [.tup (rows.map tP), tI x, tD y, .int p] ∧ Univ p n SP ∧ RwOk p n rows ∧ x ∈ tsp rows ∧ Q (.int (dot (prt rows x) y p)) M
theorem ok_law_shown (T : Tx P w K mg) : FnOk P w K mg base CX0 2 T.a_law_shown T.f_law_shown ["_law_pieces_here", "_law_spot", "_law_data", "_law_prime"] (spD 4 W_shown K) := by
  refine pd_fn T.F_law_shown sc_law_shown (fun cdv A outer s H E hr => ⟨_, (pdss_one (pds_ret (pd_call (ok_law_value T) (hr.mono (by decide)) (by rfl) T.g_law_value T.F_law_value.kp T.b_law_value (pda_cons (pd_ix ix_tup sr_ixT (pd_ix ix_tup sr_ixT (pd_name 0) (pd_ix ix_tup sr_ixT (pd_name 1) pd_int)) (pd_ix ix_tup sr_ixT (pd_name 1) pd_int)) (pda_cons (pd_name 2) (pda_cons (pd_name 3) pda_nil)))))), fun ds M Q hl h => ?_⟩)
  obtain ⟨p, n, SP, rows, x, y, rfl, U, hw, hx, q⟩ := h
  obtain ⟨i, j, ps, fs, rfl, e1, e2, e3, e4⟩ := spot_in hw hx
  have e5 : prt rows [(i : Int), (j : Int)] = fs := e3
  rw [e5] at q
  refine ⟨_, rfl, tI [(i : Int), (j : Int)], rfl, [.int (i : Int), .int (j : Int)], 0, _, rfl, rfl, ⟨by decide, rfl⟩, _, _, _, rfl, rfl, ⟨Int.natCast_nonneg _, e1⟩, tI [(i : Int), (j : Int)], rfl, [.int (i : Int), .int (j : Int)], 1, _, rfl, rfl, ⟨by decide, rfl⟩, _, _, _, rfl, rfl, ⟨Int.natCast_nonneg _, e2⟩, ?_⟩
  exact ⟨tD y, rfl, .int p, rfl, rfl, tI fs, tD y, p, fs, y, rfl, sum_ok U e4, .inr rfl, .inr rfl, q⟩
end
end K11
namespace Spc
def inR (p : Int) (R : List Rw) (y : Rw) : Bool := !nz (rmd p R y)
/-- all rows that a space gives, ascending -/
def spL (p : Int) (n : Nat) (R : List Rw) : List Rw := (allD p n).filter (inR p R)
/-- the first place that is not 0 -/
def flead (l : Rw) : Nat := l.findIdx fun x => x != 0
def pw (p : Int) : Nat → Int
  | 0 => 1
  | n + 1 => pw p n * p
def asc : List Nat → Bool
  | [] => true
  | [_] => true
  | a :: b :: l => decide (a < b) && asc (b :: l)
/-- each space for itself -/
def chkR (p : Int) (n : Nat) (SP : List (List Rw)) : Bool :=
  SP.all fun R => (red p (spL p n R) == R) && (red p R == R) && (pw p R.length == ((spL p n R).length : Int)) && !(R.contains (zero n)) && asc (R.map flead) && R.all fun l => (at_ l (flead l) == 1) && (decide (flead l < n)) && ((R.map fun o => at_ o (flead l)).sum == 1)
/-- zeros -/
def chkZ (p : Int) (n : Nat) (SP : List (List Rw)) : Bool :=
  SP.all fun R => (zs p n R == (allD p n).filter fun d => R.all fun r => dot r d p == 0) && (zrows p n (zrows p n R) == R) && (zs p n R == spL p n (zrows p n R)) && (R.all fun l => inR p R l)
end Spc
namespace Spc
end Spc
namespace Spc
/-- what is known of the spaces of one form, for what they give -/
structure UF (p : Int) (n : Nat) (SP : List (List Rw)) : Prop where
  p2 : 2 ≤ p
  nil : [] ∈ SP
  low : ∀ R ∈ SP, ∀ l ∈ R, l ∈ allD p n
  stp : ∀ R ∈ SP, ∀ y ∈ allD p n, step p R y ∈ SP
  zst : ∀ R ∈ SP, ∀ y ∈ allD p n, zs p n (step p R y) = (zs p n R).filter fun d => dot y d p == 0
  inz : ∀ R ∈ SP, ∀ y ∈ allD p n, inR p R y = ((zs p n R).find? fun d => dot y d p != 0).isNone
  z0 : zs p n [] = allD p n
  few : (allD p n).length ≤ 60
  inv : ∀ f : Int, 0 < f → f < p → ∃ k ∈ rngL p, k * f % p = 1
  cR : chkR p n SP = true
  cZ : chkZ p n SP = true
section
variable {p : Int} {n : Nat} {SP : List (List Rw)}
theorem UF.rs (U : UF p n SP) {R : List Rw} (hR : R ∈ SP) : red p (spL p n R) = R ∧ red p R = R ∧ pw p R.length = ((spL p n R).length : Int) ∧ R.contains (zero n) = false ∧ asc (R.map flead) = true ∧
    ∀ l ∈ R, at_ l (flead l) = 1 ∧ flead l < n ∧ (R.map fun o => at_ o (flead l)).sum = 1 := by
  have h := List.all_eq_true.mp U.cR R hR
  simp only [Bool.and_eq_true, beq_iff_eq, Bool.not_eq_true', List.all_eq_true, decide_eq_true_eq] at h
  obtain ⟨⟨⟨⟨⟨h1, h2⟩, h3⟩, h4⟩, h5⟩, h6⟩ := h
  exact ⟨h1, h2, h3, h4, h5, fun l hl => ⟨(h6 l hl).1.1, (h6 l hl).1.2, (h6 l hl).2⟩⟩
theorem UF.zz (U : UF p n SP) {R : List Rw} (hR : R ∈ SP) : zs p n R = ((allD p n).filter fun d => R.all fun r => dot r d p == 0) ∧ zrows p n (zrows p n R) = R ∧ zs p n R = spL p n (zrows p n R) ∧ ∀ l ∈ R, inR p R l = true := by
  have h := List.all_eq_true.mp U.cZ R hR
  simp only [Bool.and_eq_true, beq_iff_eq, List.all_eq_true] at h
  obtain ⟨⟨⟨h1, h2⟩, h3⟩, h4⟩ := h
  exact ⟨h1, h2, h3, h4⟩
theorem UF.red_in (U : UF p n SP) : ∀ (rows : List Rw) (R : List Rw), R ∈ SP → (∀ y ∈ rows, y ∈ allD p n) → rows.foldl (step p) R ∈ SP
  | [], _, h, _ => h
  | y :: rows, R, h, hy => U.red_in rows _ (U.stp R h y (hy y List.mem_cons_self)) fun z hz => hy z (List.mem_cons_of_mem _ hz)
theorem UF.redS (U : UF p n SP) {rows : List Rw} (h : ∀ y ∈ rows, y ∈ allD p n) : red p rows ∈ SP := U.red_in rows [] U.nil h
theorem UF.zs_fold (U : UF p n SP) : ∀ (rows : List Rw) (R : List Rw), R ∈ SP → (∀ y ∈ rows, y ∈ allD p n) → zs p n (rows.foldl (step p) R) = (zs p n R).filter fun d => rows.all fun r => dot r d p == 0
  | [], _, _, _ => (List.filter_eq_self.mpr fun _ _ => rfl).symm
  | y :: rows, R, hR, h => by
    have hy := h y List.mem_cons_self
    show zs p n (rows.foldl (step p) (step p R y)) = _
    rw [U.zs_fold rows _ (U.stp R hR y hy) (fun z hz => h z (List.mem_cons_of_mem _ hz)), U.zst R hR y hy, List.filter_filter]
    congr 1
    funext d
    rw [List.all_cons, Bool.and_comm]
theorem UF.zsR (U : UF p n SP) {rows : List Rw} (h : ∀ y ∈ rows, y ∈ allD p n) : zs p n (red p rows) = (allD p n).filter fun d => rows.all fun r => dot r d p == 0 := by
  rw [← U.z0]; exact U.zs_fold rows [] U.nil h
theorem forced_lo (hp : 0 < p) {R : List Rw} {free i : Nat} : 0 ≤ forced R p free i ∧ forced R p free i < p := by
  unfold forced
  split
  · exact ⟨Int.emod_nonneg _ (by omega), Int.emod_lt_of_pos _ hp⟩
  · exact ⟨Int.le_refl _, hp⟩
theorem zrow_mem (hp : 2 ≤ p) (R : List Rw) (free : Nat) : zrow p n R free ∈ allD p n := by
  refine mem_allD (by omega) (by unfold zrow; rw [List.length_map, List.length_range]) fun x hx => ?_
  unfold zrow at hx
  obtain ⟨i, _, rfl⟩ := List.mem_map.mp hx
  split
  · omega
  · exact forced_lo (by omega)
theorem UF.zin (U : UF p n SP) (R : List Rw) : zrows p n R ∈ SP := by
  refine U.redS fun y hy => ?_
  obtain ⟨i, _, rfl⟩ := List.mem_map.mp hy
  exact zrow_mem U.p2 R i
/-- spaces are told by their zeros -/
theorem UF.inj (U : UF p n SP) {R S : List Rw} (hR : R ∈ SP) (hS : S ∈ SP) (h : ∀ d ∈ allD p n, (d ∈ zs p n R ↔ d ∈ zs p n S)) : R = S := by
  obtain ⟨a1, a2, a3, _⟩ := U.zz hR
  obtain ⟨b1, b2, b3, _⟩ := U.zz hS
  have e : zs p n R = zs p n S := by
    rw [a1, b1]
    refine List.filter_congr fun d hd => ?_
    have := h d hd
    rw [a1, b1] at this
    simp only [List.mem_filter, hd, true_and] at this
    exact Bool.eq_iff_iff.mpr this
  rw [a3, b3] at e
  have e2 : zrows p n R = zrows p n S := by
    rw [← (U.rs (U.zin R)).1, e, (U.rs (U.zin S)).1]
  rw [← a2, e2, b2]
theorem UF.mem_zs (U : UF p n SP) {rows : List Rw} (h : ∀ y ∈ rows, y ∈ allD p n) (d : Rw) : d ∈ zs p n (red p rows) ↔ d ∈ allD p n ∧ ∀ r ∈ rows, dot r d p = 0 := by
  rw [U.zsR h, List.mem_filter, List.all_eq_true]
  simp only [beq_iff_eq]
/-- the same rows, however often and in whatever order, give the same space -/
theorem UF.same (U : UF p n SP) {rows rows' : List Rw} (h : ∀ y ∈ rows, y ∈ allD p n) (e : ∀ y, y ∈ rows ↔ y ∈ rows') : red p rows = red p rows' := by
  have h' : ∀ y ∈ rows', y ∈ allD p n := fun y hy => h y ((e y).mpr hy)
  refine U.inj (U.redS h) (U.redS h') fun d hd => ?_
  rw [U.mem_zs h, U.mem_zs h']
  exact ⟨fun ⟨a, b⟩ => ⟨a, fun r hr => b r ((e r).mpr hr)⟩, fun ⟨a, b⟩ => ⟨a, fun r hr => b r ((e r).mp hr)⟩⟩
end
/-- an ascending list is told by its members -/
theorem asc_eq : ∀ {x y : List Rw}, x.Pairwise (· < ·) → y.Pairwise (· < ·) → (∀ a, a ∈ x ↔ a ∈ y) → x = y := fun {x y} hx hy h => by
  have nd : ∀ {l : List Rw}, l.Pairwise (· < ·) → l.Nodup := fun h => h.imp fun h e => by rw [e] at h; exact List.lt_irrefl _ h
  refine List.Perm.eq_of_pairwise (le := (· < ·)) (fun a b _ _ h1 h2 => absurd h2 (List.lt_asymm h1)) hx hy ?_
  exact (List.perm_ext_iff_of_nodup (nd hx) (nd hy)).mpr h
end Spc
set_option Elab.async false
set_option linter.all false
set_option maxRecDepth 100000
set_option maxHeartbeats 4000000
namespace K11
namespace X
open PySem PySem.Spec PyProof.Rows L2 Pd Spc
theorem eqD_tups : ∀ (A B : List (List Int)), eqD (.tup (A.map tI)) (.tup (B.map tI)) = decide (A = B)
  | [], [] => rfl
  | [], _ :: _ => rfl
  | _ :: _, [] => rfl
  | a :: A, b :: B => by
    have ih := eqD_tups A B
    have e : eqD (.tup ((a :: A).map tI)) (.tup ((b :: B).map tI)) = (eqD (tI a) (tI b) && eqD (.tup (A.map tI)) (.tup (B.map tI))) := rfl
    rw [e, ih, show eqD (tI a) (tI b) = decide (a = b) from eqD_tup a b, Bool.eq_iff_iff]
    simp
theorem spLt_lt {x y : List Int} (h : spLt x y) : x < y := by
  obtain ⟨i, j, k, l, rfl, rfl, h⟩ := h
  rcases h with h | ⟨rfl, h⟩
  · exact List.cons_lt_cons_iff.mpr (.inl h)
  · exact List.cons_lt_cons_iff.mpr (.inr ⟨rfl, List.cons_lt_cons_iff.mpr (.inl h)⟩)
theorem tP_inj {x y : List (List Int)} (h : tP x = tP y) : x = y := by
  injection h with h
  have := congrArg (List.map intsOf) h
  rw [List.map_map, List.map_map] at this
  have e : ∀ l : List (List Int), l.map (intsOf ∘ tI) = l := fun l => by
    have : (intsOf ∘ tI) = id := funext fun z => ints_tI z
    rw [this, List.map_id]
  rwa [e, e] at this
theorem add_neg (p f : Int) : ∀ x y : List Int, List.zipWith (fun a b => (a + f * b) % p) x y = mn p x y (-f)
  | [], _ => rfl
  | _ :: _, [] => rfl
  | a :: x, b :: y => by
    have ih := add_neg p f x y
    unfold mn at ih ⊢
    rw [List.zipWith_cons_cons, List.zipWith_cons_cons, ih, Int.neg_mul, Int.sub_neg]
theorem sp_lt {x y : List Int} (hx : ∃ i j : Int, x = [i, j]) (hy : ∃ i j : Int, y = [i, j]) (h : x < y) : spLt x y := by
  obtain ⟨i, j, rfl⟩ := hx
  obtain ⟨k, l, rfl⟩ := hy
  rcases List.cons_lt_cons_iff.mp h with h1 | ⟨e, h1⟩
  · exact ⟨_, _, _, _, rfl, rfl, .inl h1⟩
  · rcases List.cons_lt_cons_iff.mp h1 with h2 | ⟨_, h2⟩
    · exact ⟨_, _, _, _, rfl, rfl, .inr ⟨e, h2⟩⟩
    · exact absurd h2 (by simp)
theorem ltT_sp {x y : List Int} (hx : ∃ i j : Int, x = [i, j]) (hy : ∃ i j : Int, y = [i, j]) (h : ltG (.tup [tI x, tI y]) = true) : spLt x y := by
  obtain ⟨i, j, rfl⟩ := hx
  obtain ⟨k, l, rfl⟩ := hy
  have h2 : HT.lexLt [i, j] [k, l] = true := h
  rw [HT.lexLt_cons] at h2
  split at h2
  · rename_i e
    rw [HT.lexLt_cons] at h2
    split at h2
    · cases h2
    · exact ⟨_, _, _, _, rfl, rfl, .inr ⟨e, of_decide_eq_true h2⟩⟩
  · exact ⟨_, _, _, _, rfl, rfl, .inl (of_decide_eq_true h2)⟩
theorem spLt_trans {x y z : List Int} (h : spLt x y) (h2 : spLt y z) : spLt x z := by
  obtain ⟨i, j, k, l, rfl, rfl, h⟩ := h
  obtain ⟨k', l', m, o, e, rfl, h2⟩ := h2
  injection e with e1 e2
  injection e2 with e2 _
  subst e1; subst e2
  exact ⟨_, _, _, _, rfl, rfl, by omega⟩
theorem asc_pw2 : ∀ (L : List (List Int)), (∀ x ∈ L, ∃ i j : Int, x = [i, j]) → ascG (L.map tI) = true → L.Pairwise spLt
  | [], _, _ => .nil
  | [x], _, _ => List.pairwise_singleton _ _
  | x :: y :: L, h2, h => by
    have e : ascG ((x :: y :: L).map tI) = (ltG (.tup [tI x, tI y]) && ascG ((y :: L).map tI)) := by
      unfold ascG
      rw [cut1, cut1]; rfl
    rw [e, Bool.and_eq_true] at h
    have hxy := ltT_sp (h2 x List.mem_cons_self) (h2 y (List.mem_cons_of_mem _ List.mem_cons_self)) h.1
    have ih := asc_pw2 (y :: L) (fun z hz => h2 z (List.mem_cons_of_mem _ hz)) h.2
    refine List.pairwise_cons.mpr ⟨fun z hz => ?_, ih⟩
    rcases List.mem_cons.mp hz with rfl | hz
    · exact hxy
    · exact spLt_trans hxy ((List.pairwise_cons.mp ih).1 z hz)
theorem asc_set {L ms : List (List Int)} (h2 : ∀ x ∈ L, ∃ i j : Int, x = [i, j]) (ha : ms.Pairwise (· < ·)) (hm : ∀ k, k ∈ ms ↔ k ∈ L) : decide (L = ms) = ascG (L.map tI) := by
  rw [Bool.eq_iff_iff, decide_eq_true_eq]
  constructor
  · rintro rfl
    refine asc_spots (List.Pairwise.imp_of_mem (fun {a b} h1 h3 h => sp_lt (h2 a h1) (h2 b h3) h) ha)
  · intro h
    exact (asc_eq ha ((asc_pw2 L h2 h).imp spLt_lt) hm).symm
theorem dig_eq : ∀ i ∈ List.range 7, ∀ j ∈ List.range 7, eqD (.str (reprD (.int (i : Int)))) (.str (reprD (.int (j : Int)))) = decide (i = j) := by decide +kernel
theorem dig_tru : ∀ i ∈ List.range 7, eqD (.str (reprD (.int (i : Int)))) (.str (reprD (.bl true))) = false := by decide +kernel
theorem dig_np : ∀ i ∈ List.range 7, eqD (.str (reprD (.int (i : Int)))) (.str (reprD (itD .np))) = false := by decide +kernel
theorem dig_pr : ∀ i ∈ List.range 10, ∀ j ∈ List.range 10, ∀ k ∈ List.range 7, (reprD (.tup [.tup [.int (i : Int), .int (j : Int)], .int (k : Int)])).length ≠ 1 := by decide +kernel
theorem dig_len : ∀ i ∈ List.range 7, (reprD (.int (i : Int))).length = 1 := by decide +kernel
theorem dig_ok : ∀ i ∈ List.range 7, PyData.strOk (reprD (.int (i : Int))) = true := by decide +kernel
/-- the repr of an item is one of the digits -/
def inDig (lo p : Int) : It → Bool | .num i => decide (lo ≤ i) && decide (i < p) | _ => false
def shD : D → D := fun d => match d with | .int i => .str (reprD (.int i)) | d => d
theorem dig_any {lo m : Nat} (h7 : lo + m ≤ 7) {it : It} (h : ItOk it) : ((rng (lo : Int) m).map shD).any (fun z => eqD z (.str (reprD (itD it)))) = inDig lo ((lo + m : Nat) : Int) it := by
  unfold rng
  rw [List.map_map, List.any_map]
  have no : (∀ i ∈ List.range 7, eqD (.str (reprD (.int (i : Int)))) (.str (reprD (itD it))) = false) → ((List.range m).any ((fun z => eqD z (.str (reprD (itD it)))) ∘ (shD ∘ fun (i : Nat) => D.int ((lo : Int) + (i : Int))))) = false := fun hh => by
    rw [List.any_eq_false]
    intro j hj
    have hj := List.mem_range.mp hj
    have e := hh (lo + j) (List.mem_range.mpr (by omega))
    rw [Int.natCast_add] at e
    show ¬ eqD (.str (reprD (.int ((lo : Int) + (j : Int))))) _ = true
    rw [e]; exact Bool.false_ne_true
  cases it with
  | tru => rw [no dig_tru]; rfl
  | np => rw [no dig_np]; rfl
  | pr x k =>
    obtain ⟨⟨i, j, rfl, i9, j9⟩, k0, k6⟩ := h
    rw [no fun d hd => ?_]; rfl
    obtain ⟨kn, rfl⟩ : ∃ kn : Nat, k = (kn : Int) := ⟨k.toNat, by omega⟩
    rw [eq_str, decide_eq_false fun e => ?_]
    have h1 := dig_pr i (List.mem_range.mpr (by omega)) j (List.mem_range.mpr (by omega)) kn (List.mem_range.mpr (by omega))
    have h2 := dig_len d hd
    rw [e] at h2
    exact h1 h2
  | num i =>
    obtain ⟨i0, i6⟩ := h
    obtain ⟨k, rfl⟩ : ∃ k : Nat, i = (k : Int) := ⟨i.toNat, by omega⟩
    rw [Bool.eq_iff_iff, List.any_eq_true]
    show _ ↔ (decide ((lo : Int) ≤ (k : Int)) && decide ((k : Int) < ((lo + m : Nat) : Int))) = true
    rw [Bool.and_eq_true, decide_eq_true_eq, decide_eq_true_eq]
    constructor
    · rintro ⟨j, hj, e⟩
      have hj := List.mem_range.mp hj
      have e' : eqD (.str (reprD (.int ((lo : Int) + (j : Int))))) (.str (reprD (.int (k : Int)))) = true := e
      rw [← Int.natCast_add, dig_eq (lo + j) (List.mem_range.mpr (by omega)) k (List.mem_range.mpr (by omega)), decide_eq_true_eq] at e'
      omega
    · rintro ⟨h1, h2⟩
      refine ⟨k - lo, List.mem_range.mpr (by omega), ?_⟩
      show eqD (.str (reprD (.int ((lo : Int) + ((k - lo : Nat) : Int))))) (.str (reprD (.int (k : Int)))) = true
      rw [← Int.natCast_add, dig_eq (lo + (k - lo)) (List.mem_range.mpr (by omega)) k (List.mem_range.mpr (by omega)), decide_eq_true_eq]
      omega
theorem sh_int {i : Int} (h0 : 0 ≤ i) (h6 : i ≤ 1000) : Shows (.int i) := (sm_int5 i (by omega)).shows (by decide) (by decide)
theorem it_sm {it : It} (h : ItOk it) : Sm 50 2 (itD it) := by
  cases it with
  | num i => exact (sm_int5 i (by have : 0 ≤ i ∧ i ≤ 6 := h; omega)).mono (by decide) (by decide)
  | tru => exact ⟨rfl, by decide +kernel, by decide +kernel, by decide +kernel, by decide +kernel⟩
  | np => exact ⟨rfl, by decide +kernel, by decide +kernel, by decide +kernel, by decide +kernel⟩
  | pr x k =>
    obtain ⟨⟨i, j, rfl, i9, j9⟩, k0, k6⟩ := h
    refine (sm_tup (n := 20) (k := 1) (m := 2) (fun d hd => ?_) (Nat.le_refl _)).mono (by decide) (by decide)
    rcases List.mem_cons.mp hd with rfl | hd
    · refine (sm_tup (n := 5) (k := 0) (m := 2) (fun d hd => ?_) (Nat.le_refl _)).mono (by decide) (by decide)
      rcases List.mem_cons.mp hd with rfl | hd
      · exact sm_int5 _ (by omega)
      · rw [List.mem_singleton.mp hd]; exact sm_int5 _ (by omega)
    · rw [List.mem_singleton.mp hd]; exact (sm_int5 k (by omega)).mono (by decide) (by decide)
theorem okStr {d : D} {n k : Nat} (h : Sm n k d) : okD (.str (reprD d)) = true := by
  show (true && (PyData.strOk (reprD d) && decide (0 ≤ 64))) = true
  rw [h.ok]; rfl
theorem okD_shs (lo m : Nat) (h7 : lo + m ≤ 7) : okD (.lst ((rng (lo : Int) m).map shD)) = true := okD_lstL (k := 0) (fun d hd => by
  obtain ⟨e, he, rfl⟩ := List.mem_map.mp hd
  unfold rng at he
  obtain ⟨j, hj, rfl⟩ := List.mem_map.mp he
  have hj := List.mem_range.mp hj
  have h := dig_ok (lo + j) (List.mem_range.mpr (by omega))
  rw [Int.natCast_add] at h
  exact ⟨rfl, h, Nat.zero_le _⟩) (by decide)
theorem data_dig {p : Int} {n : Nat} {its : List It} : dataB p n (.tup (its.map itD)) = (decide (its.length = n) && its.all (inDig 0 p)) := by
  show (decide ((its.map itD).length = n) && (its.map itD).all (btwB 0 (p - 1))) = _
  rw [List.length_map, List.all_map]
  congr 1
  congr 1
  funext it
  cases it with
  | num i =>
    show (decide (0 ≤ i) && decide (i ≤ p - 1)) = (decide (0 ≤ i) && decide (i < p))
    congr 1
    exact decide_eq_decide.mpr (by omega)
  | tru => rfl
  | pr x k => rfl
  | np => rfl
def prBD (p : Int) (cs : List (List Int)) : D → Bool | .tup [a, .int k] => spotB cs a && (decide (1 ≤ k) && decide (k ≤ p - 1)) | _ => false
theorem prBD_it {p : Int} {cs : List (List Int)} {it : It} (h : ItOk it) : prBD p cs (itD it) = prB p cs it := by
  cases it with
  | num i => rfl
  | tru => rfl
  | np => rfl
  | pr x k =>
    obtain ⟨⟨i, j, rfl, _⟩, _⟩ := h
    rfl
section
variable {P : Program} {w : World} {K : PySem.W.Frag} {mg : Str → Option Value} {base : Heap}
def W_pair : DC := fun ds M Q => ∃ (p : Int) (cs : List (List Int)) (it : It), ds = [.lst (cs.map tI), .int p, itD it] ∧ 2 ≤ p ∧ p ≤ 7 ∧ cs.length ≤ 10 ∧ ItOk it ∧ Q (.bl (prB p cs it)) M
theorem ok_law_is_pair (T : Tx P w K mg) : FnG P w K mg base 2 T.a_law_is_pair T.f_law_is_pair ["_law_spots_here", "_law_prime", "_law_value_here"] (spD 3 W_pair K) := by
  refine pd_fnG T.F_law_is_pair sc_law_is_pair (fun cdv A outer s H E hgu hr => ⟨_, (pdss_cons (pds_if (pdt_w (pdw_or (pdt_not (pdt_val (pd_callB call_isi sc_isi (by rfl) T.n_isinstance (by decide +kernel) (pda_cons (pd_name 2) (pda_cons (pd_bltn (v := .ty "tuple") (d := .ty "tuple") (by rfl) T.n_tuple (by decide +kernel) rfl (fun _ _ => .ty _)) pda_nil))))) (pdw_or (pdt_cmp (op_neD hr.units) sr_ne (pd_callB call_len_seq sc_len (by rfl) T.n_len (by decide +kernel) (pda_cons (pd_name 2) pda_nil)) pd_int (nomark _)) (pdw_or1 (pdt_cmp (op_ninS hr.units) sr_ninS (pd_ix ix_tup sr_ixT (pd_name 2) pd_int) (pd_name 0) (by rfl)))))) (pdss_one (pds_ret pd_bl)) pdss_nil)
      (pdss_one (pds_ret (pd_and (pd_callB call_isi sc_isi (by rfl) T.n_isinstance (by decide +kernel) (pda_cons (pd_ix ix_tup sr_ixT (pd_name 2) pd_int) (pda_cons (pd_bltn (v := .ty "tuple") (d := .ty "tuple") (by rfl) T.n_tuple (by decide +kernel) rfl (fun _ _ => .ty _)) pda_nil))) (pd_one (pd_cmp (op_inS' hr.units) sr_inS (pd_callB (call_repr hgu hr.units) sc_repr (by rfl) T.n_repr (by decide +kernel) (pda_cons (pd_ix ix_tup sr_ixT (pd_name 2) pd_int) pda_nil)) (pd_lc [("_law_factor", 3)] rfl sc_law_is_pair.nd (pdi_range2 (by rfl) T.n_range (pda_cons pd_int (pda_cons (pd_name 1) pda_nil))) (blkOk_by (N := ["_law_spots_here", "_law_prime", "_law_value_here", "_law_factor"]) (sc := defScope s_law_is_pair) (by decide +kernel)) (fun _ _ _ _ _ => (pdg_name 3 sc_law_is_pair.nd)) (fun _ _ _ _ _ => pdts_nil) (fun _ _ _ _ _ => (pd_callB (call_repr hgu hr.units) sc_repr (by rfl) T.n_repr (by decide +kernel) (pda_cons (pd_name 3) pda_nil)))) (by rfl))))))), fun ds M Q hl h => ?_⟩)
  obtain ⟨p, cs, it, rfl, hp2, hp7, hcl, hok, q⟩ := h
  have hsl : sizeLine = 16777216 := by decide
  obtain ⟨pn, rfl⟩ : ∃ pn : Nat, p = (pn : Int) := ⟨p.toNat, by omega⟩
  cases it with
  | num i => exact ⟨_, rfl, _, _, _, _, _, false, rfl, dty rfl, .ty "tuple", kit_ty (by decide +kernel), false, rfl, q⟩
  | tru => exact ⟨_, rfl, _, _, _, _, _, false, rfl, dty rfl, .ty "tuple", kit_ty (by decide +kernel), false, rfl, q⟩
  | np =>
    refine ⟨_, rfl, _, _, _, _, _, true, rfl, dty rfl, .ty "tuple", kit_ty (by decide +kernel), true, rfl, ?_⟩
    refine ⟨_, rfl, _, .inr rfl, rfl, rfl, false, rfl, iff0 ?_⟩
    have : (cs.map tI).any (fun z => eqD z .non) = false := by
      rw [List.any_eq_false]
      intro d hd
      obtain ⟨x, _, rfl⟩ := List.mem_map.mp hd
      exact Bool.false_ne_true
    exact ⟨_, rfl, [.non, .int 1], 0, .non, rfl, rfl, ⟨by decide, rfl⟩, _, rfl, cs.map tI, .inl rfl, rfl, okD_tuples cs, (by decide), true, by rw [this]; rfl, q⟩
  | pr x k =>
    obtain ⟨⟨i, j, rfl, i9, j9⟩, k0, k6⟩ := hok
    refine ⟨_, rfl, _, _, _, _, _, true, rfl, dty rfl, .ty "tuple", kit_ty (by decide +kernel), true, rfl, ?_⟩
    refine ⟨_, rfl, _, .inr rfl, rfl, rfl, false, rfl, iff0 ?_⟩
    have ha : (cs.map tI).any (fun z => eqD z (tI [(i : Int), (j : Int)])) = decide ([(i : Int), (j : Int)] ∈ cs) := any_spot cs i j
    refine ⟨_, rfl, [tI [(i : Int), (j : Int)], .int k], 0, _, rfl, rfl, ⟨by decide, rfl⟩, _, rfl, cs.map tI, .inl rfl, okD_tup _, okD_tuples cs, (by show 1 ≤ 60; decide), !decide ([(i : Int), (j : Int)] ∈ cs), by rw [ha], ?_⟩
    have e : prB pn cs (.pr [(i : Int), (j : Int)] k) = (decide ([(i : Int), (j : Int)] ∈ cs) && (decide (1 ≤ k) && decide (k ≤ (pn : Int) - 1))) := rfl
    rw [e] at q
    by_cases hx : [(i : Int), (j : Int)] ∈ cs
    · rw [decide_eq_true hx] at q ⊢
      rw [Bool.true_and] at q
      refine ⟨_, rfl, [tI [(i : Int), (j : Int)], .int k], 0, _, rfl, rfl, ⟨by decide, rfl⟩, _, _, _, _, _, true, rfl, dty rfl, .ty "tuple", kit_ty (by decide +kernel), true, rfl, ?_⟩
      refine iff1 ⟨_, rfl, [tI [(i : Int), (j : Int)], .int k], 1, _, rfl, rfl, ⟨by decide, rfl⟩, _, rfl, sh_int k0 (by omega), ?_⟩
      refine ⟨_, rfl, 1, (pn : Int), rfl, ⟨by decide, by decide, by omega, by omega⟩, ?_⟩
      rw [show ((pn : Int) - 1).toNat = pn - 1 by omega]
      refine lc_map shD _ _ (fun d hd R hR => ?_) (by rw [List.length_nil, rng_len]; omega) ?_
      · unfold rng at hd
        obtain ⟨z, hz, rfl⟩ := List.mem_map.mp hd
        have hz := List.mem_range.mp hz
        exact ⟨_, rfl, _, rfl, sh_int (by omega) (by omega), hR⟩
      rw [List.nil_append]
      refine ⟨_, .inl rfl, okStr (sm_int5 k (by omega)), okD_shs 1 (pn - 1) (by omega), (by show 0 ≤ 60; decide), ?_⟩
      have := dig_any (lo := 1) (m := pn - 1) (by omega) (it := .num k) ⟨k0, k6⟩
      rw [show ((rng 1 (pn - 1)).map shD).any (fun z => eqD z (.str (reprD (.int k)))) = inDig 1 ((1 + (pn - 1) : Nat) : Int) (.num k) from this]
      rw [show inDig 1 ((1 + (pn - 1) : Nat) : Int) (.num k) = (decide (1 ≤ k) && decide (k ≤ (pn : Int) - 1)) by
        show (decide (1 ≤ k) && decide (k < ((1 + (pn - 1) : Nat) : Int))) = _
        congr 1
        exact decide_eq_decide.mpr (by omega)]
      exact q
    · rw [decide_eq_false hx] at q ⊢
      rw [Bool.false_and] at q
      exact q
def W_acc : DC := fun ds M Q => ∃ (p : Int) (n : Nat) (SP : List (List Rw)) (rows : List (List (List Int))) (cs : List (List Int)) (y : Rw) (v : D), ds = [.int p, .tup (rows.map tP), .lst (cs.map tI), tI y, v] ∧ Univ p n SP ∧ RwOk p n rows ∧ Cs rows cs ∧ y ∈ allD p n ∧
  ((∃ wd its, Vg v wd its ∧ Q (.bl (accB p n rows cs y wd its)) M) ∨ (Vj v ∧ Q (.bl false) M))
theorem ok_law_accepts (T : Tx P w K mg) : FnG P w K mg base 5 T.a_law_accepts T.f_law_accepts ["_law_prime", "_law_pieces_here", "_law_spots_here", "_law_factors_here", "_law_value_here"] (spD 5 W_acc K) := by
  refine pd_fnG T.F_law_accepts sc_law_accepts (fun cdv A outer s H E hgu hr => ⟨_, (pdss_cons (pds_if (pdt_w (pdw_or (pdt_not (pdt_val (pd_callB call_isi sc_isi (by rfl) T.n_isinstance (by decide +kernel) (pda_cons (pd_name 4) (pda_cons (pd_bltn (v := .ty "tuple") (d := .ty "tuple") (by rfl) T.n_tuple (by decide +kernel) rfl (fun _ _ => .ty _)) pda_nil))))) (pdw_or (pdt_cmp (op_neD hr.units) sr_ne (pd_callB call_len_seq sc_len (by rfl) T.n_len (by decide +kernel) (pda_cons (pd_name 4) pda_nil)) pd_int (nomark _)) (pdw_or1 (pdt_not (pdt_val (pd_callB call_isi sc_isi (by rfl) T.n_isinstance (by decide +kernel) (pda_cons (pd_fg (pd_ix ix_tup sr_ixT (pd_name 4) pd_int)) (pda_cons (pd_bltn (v := .ty "tuple") (d := .ty "tuple") (by rfl) T.n_tuple (by decide +kernel) rfl (fun _ _ => .ty _)) pda_nil))))))))) (pdss_one (pds_ret pd_bl)) pdss_nil)
      (pdss_cons (pds_if (pdt_cmp (op_eqD hr.units) sr_eq (pd_ix ix_tup sr_ixT (pd_name 4) pd_int) pd_str (nomark _)) (pdss_cons (pds_set 7 sc_law_accepts.nd (pd_lc [("_law_number", 11)] rfl sc_law_accepts.nd (pdi_range1 (by rfl) T.n_range (pda_cons (pd_name 0) pda_nil)) (blkOk_by (N := ["_law_prime", "_law_pieces_here", "_law_spots_here", "_law_factors_here", "_law_value_here", "_law_places", "_law_found", "_law_digits", "_law_spot", "_law_factor", "_law_item", "_law_number", "_law_one", "_law_two"]) (sc := defScope s_law_accepts) (by decide +kernel)) (fun _ _ _ _ _ => (pdg_name 11 sc_law_accepts.nd)) (fun _ _ _ _ _ => pdts_nil) (fun _ _ _ _ _ => (pd_callB (call_repr hgu hr.units) sc_repr (by rfl) T.n_repr (by decide +kernel) (pda_cons (pd_name 11) pda_nil)))))
      (pdss_cons (pds_if (pdt_w (pdw_or (pdt_cmp (op_neD hr.units) sr_ne (pd_callB call_len_seq sc_len (by rfl) T.n_len (by decide +kernel) (pda_cons (pd_fg (pd_ix ix_tup sr_ixT (pd_name 4) pd_int)) pda_nil)) (pd_callB call_len_seq sc_len (by rfl) T.n_len (by decide +kernel) (pda_cons (pd_name 3) pda_nil)) (nomark _)) (pdw_or1 (pdt_not (pdt_val (pd_callB (cr_all rfl) sc_all (by rfl) T.n_all (by decide +kernel) (pda_cons (pd_lc [("_law_item", 10)] rfl sc_law_accepts.nd (pdi_tup (pd_fg (pd_ix ix_tup sr_ixT (pd_name 4) pd_int))) (blkOk_by (N := ["_law_prime", "_law_pieces_here", "_law_spots_here", "_law_factors_here", "_law_value_here", "_law_places", "_law_found", "_law_digits", "_law_spot", "_law_factor", "_law_item", "_law_number", "_law_one", "_law_two"]) (sc := defScope s_law_accepts) (by decide +kernel)) (fun _ _ _ _ _ => (pdg_name 10 sc_law_accepts.nd)) (fun _ _ _ _ _ => pdts_nil) (fun _ _ _ _ _ => (pd_cmp (op_inS' hr.units) sr_inS (pd_callB (call_repr hgu hr.units) sc_repr (by rfl) T.n_repr (by decide +kernel) (pda_cons (pd_name 10) pda_nil)) (pd_name 7) (by rfl)))) pda_nil))))))) (pdss_one (pds_ret pd_bl)) pdss_nil)
      (pdss_cons (pds_if (pdt_val (pd_callB (cr_anyLI rfl) sc_anyLI (by rfl) T.n_any (by decide +kernel) (pda_cons (pd_lc [("_law_spot", 8)] rfl sc_law_accepts.nd (pdi_list (pd_name 2)) (blkOk_by (N := ["_law_prime", "_law_pieces_here", "_law_spots_here", "_law_factors_here", "_law_value_here", "_law_places", "_law_found", "_law_digits", "_law_spot", "_law_factor", "_law_item", "_law_number", "_law_one", "_law_two"]) (sc := defScope s_law_accepts) (by decide +kernel)) (fun _ _ _ _ _ => (pdg_name 8 sc_law_accepts.nd)) (fun _ _ _ _ _ => pdts_nil) (fun _ _ _ _ _ => (pd_call (ok_law_shown T) (hr.mono (by decide)) (by rfl) T.g_law_shown T.F_law_shown.kp T.b_law_shown (pda_cons (pd_name 1) (pda_cons (pd_name 8) (pda_cons (pd_fg (pd_ix ix_tup sr_ixT (pd_name 4) pd_int)) (pda_cons (pd_name 0) pda_nil))))))) pda_nil))) (pdss_one (pds_ret pd_bl)) pdss_nil)
      (pdss_one (pds_ret (pd_cmp (op_neD hr.units) sr_ne (pd_call (ok_law_value T) (hr.mono (by decide)) (by rfl) T.g_law_value T.F_law_value.kp T.b_law_value (pda_cons (pd_name 3) (pda_cons (pd_fg (pd_ix ix_tup sr_ixT (pd_name 4) pd_int)) (pda_cons (pd_name 0) pda_nil)))) pd_int (nomark _))))))) pdss_nil)
      (pdss_cons (pds_if (pdt_w (pdw_or (pdt_cmp (op_neD hr.units) sr_ne (pd_ix ix_tup sr_ixT (pd_name 4) pd_int) pd_str (nomark _)) (pdw_or1 (pdt_not (pdt_val (pd_callB (cr_all rfl) sc_all (by rfl) T.n_all (by decide +kernel) (pda_cons (pd_lc [("_law_item", 10)] rfl sc_law_accepts.nd (pdi_tup (pd_fg (pd_ix ix_tup sr_ixT (pd_name 4) pd_int))) (blkOk_by (N := ["_law_prime", "_law_pieces_here", "_law_spots_here", "_law_factors_here", "_law_value_here", "_law_places", "_law_found", "_law_digits", "_law_spot", "_law_factor", "_law_item", "_law_number", "_law_one", "_law_two"]) (sc := defScope s_law_accepts) (by decide +kernel)) (fun _ _ _ _ _ => (pdg_name 10 sc_law_accepts.nd)) (fun _ _ _ _ _ => pdts_nil) (fun _ _ _ _ _ => (pd_callG hgu (ok_law_is_pair T) (hr.mono (by decide)) (by rfl) T.g_law_is_pair T.F_law_is_pair.kp T.b_law_is_pair (pda_cons (pd_name 2) (pda_cons (pd_name 0) (pda_cons (pd_name 10) pda_nil)))))) pda_nil))))))) (pdss_one (pds_ret pd_bl)) pdss_nil)
      (pdss_cons (pds_setLc 5 [("_law_item", 10)] rfl sc_law_accepts.nd rfl rfl (sw_true rfl rfl rfl (by decide +kernel)) (pdi_tup (pd_fg (pd_ix ix_tup sr_ixT (pd_name 4) pd_int))) (blkOk_by (N := ["_law_prime", "_law_pieces_here", "_law_spots_here", "_law_factors_here", "_law_value_here", "_law_places", "_law_found", "_law_digits", "_law_spot", "_law_factor", "_law_item", "_law_number", "_law_one", "_law_two"]) (sc := defScope s_law_accepts) (by decide +kernel)) (fun _ _ _ _ _ => (pdg_name 10 sc_law_accepts.nd)) (fun _ _ _ _ _ => pdts_nil) (fun _ _ _ _ _ => (pd_ix ix_tup sr_ixT (pd_name 10) pd_int)))
      (pdss_cons (pds_if (pdt_cmp (op_neD hr.units) sr_ne (pd_name 5) (pd_sortSetT rfl hr.units (by rfl) T.n_sorted (by rfl) T.n_set (pd_name 5)) (nomark _)) (pdss_one (pds_ret pd_bl)) pdss_nil)
      (pdss_cons (pds_set 6 sc_law_accepts.nd (pd_repL (pda_cons pd_int pda_nil) (pd_callB call_len_seq sc_len (by rfl) T.n_len (by decide +kernel) (pda_cons (pd_name 3) pda_nil))))
      (pdss_cons (pds_for PassesOwn.never rfl (pdi_tup (pd_fg (pd_ix ix_tup sr_ixT (pd_name 4) pd_int))) (pdg_tup (n := 2) rfl (pdgs_cons (pdg_name 8 sc_law_accepts.nd) (pdgs_cons (pdg_name 9 sc_law_accepts.nd) pdgs_nil))) (pdss_one (pds_setLc 6 [("_law_one", 12), ("_law_two", 13)] rfl sc_law_accepts.nd rfl rfl (sw_true rfl rfl rfl (by decide +kernel)) (pdi_zip (by rfl) T.n_zip (pda_cons (pd_name 6) (pda_cons (pd_ix ix_tup sr_ixT (pd_ix ix_tup sr_ixT (pd_name 1) (pd_ix ix_tup sr_ixT (pd_name 8) pd_int)) (pd_ix ix_tup sr_ixT (pd_name 8) pd_int)) pda_nil))) (blkOk_by (N := ["_law_prime", "_law_pieces_here", "_law_spots_here", "_law_factors_here", "_law_value_here", "_law_places", "_law_found", "_law_digits", "_law_spot", "_law_factor", "_law_item", "_law_number", "_law_one", "_law_two"]) (sc := defScope s_law_accepts) (by decide +kernel)) (fun _ _ _ _ _ => (pdg_tup (n := 2) rfl (pdgs_cons (pdg_name 12 sc_law_accepts.nd) (pdgs_cons (pdg_name 13 sc_law_accepts.nd) pdgs_nil)))) (fun _ _ _ _ _ => pdts_nil) (fun _ _ _ _ _ => (pd_op op_mod sr_I (pd_callTy call_int1 sc_int (by rfl) T.n_int (by decide +kernel) (pda_cons (pd_op op_add sr_I0i (pd_name 12) (pd_op op_mul sr_I (pd_name 9) (pd_name 13))) pda_nil)) (pd_name 0))))))
      (pdss_one (pds_ret (pd_cmp (op_eqD hr.units) sr_eq (pd_name 6) (pd_callTy call_list_of sc_list (by rfl) T.n_list (by decide +kernel) (pda_cons (pd_name 3) pda_nil)) (nomark _))))))))))), fun ds M Q hl h => ?_⟩)
  obtain ⟨p, n, SP, rows, cs, y, v, rfl, U, hw, hc, hy, h⟩ := h
  have hsl : sizeLine = 16777216 := by decide
  have hp2 := U.p2
  have hp7 := U.p7
  have hn1 := U.n1
  have hn4 := U.n4
  have h10 := tsp_len hw
  have hcl := hc.len
  obtain ⟨y1, y2⟩ := allD_mem hy
  obtain ⟨pn, rfl⟩ : ∃ pn : Nat, p = (pn : Int) := ⟨p.toNat, by omega⟩
  rcases h with ⟨wd, its, ⟨⟨u, rfl, hu⟩, hok, hl20, hwk⟩, q⟩ | ⟨h, q⟩
  rotate_left
  · cases h with
    | nt t h hn =>
      obtain ⟨hd, hk⟩ := noTup (K := K) h hn
      exact ⟨_, rfl, _, _, _, _, _, false, rfl, hd, .ty "tuple", hk, false, rfl, q⟩
    | ln es h hn =>
      subst h
      refine ⟨_, rfl, _, _, _, _, _, true, rfl, dty rfl, .ty "tuple", kit_ty (by decide +kernel), true, rfl, ?_⟩
      exact ⟨_, rfl, es, .inr rfl, rfl, rfl, true, by rw [eqD_int, decide_eq_false (by omega)]; rfl, q⟩
    | ti es wd h =>
      subst h
      refine ⟨_, rfl, _, _, _, _, _, true, rfl, dty rfl, .ty "tuple", kit_ty (by decide +kernel), true, rfl, ?_⟩
      refine ⟨_, rfl, _, .inr rfl, rfl, rfl, false, rfl, iff0 ?_⟩
      exact ⟨_, rfl, [.tup es, .str wd], 1, .str wd, rfl, rfl, ⟨by decide, rfl⟩, _, _, _, _, _, false, rfl, dty rfl, .ty "tuple", kit_ty (by decide +kernel), false, rfl, q⟩
    | ts wd u t h hf ht hn hwk =>
      subst h
      obtain ⟨hd, hk⟩ := noTup (K := K) ht hn
      refine ⟨_, rfl, _, _, _, _, _, true, rfl, dty rfl, .ty "tuple", kit_ty (by decide +kernel), true, rfl, ?_⟩
      refine ⟨_, rfl, _, .inr rfl, rfl, rfl, false, rfl, iff0 ?_⟩
      refine ⟨_, rfl, [.str wd, u], 1, u, rfl, rfl, ⟨by decide, rfl⟩, ?_⟩
      dsimp only
      rw [hf]
      exact ⟨_, _, _, _, _, false, rfl, hd, .ty "tuple", hk, false, rfl, q⟩
  refine ⟨_, rfl, _, _, _, _, _, true, rfl, dty rfl, .ty "tuple", kit_ty (by decide +kernel), true, rfl, ?_⟩
  refine ⟨_, rfl, _, .inr rfl, rfl, rfl, false, rfl, iff0 ?_⟩
  refine ⟨_, rfl, [.str wd, u], 1, u, rfl, rfl, ⟨by decide, rfl⟩, ?_⟩
  dsimp only
  rw [hu]
  refine ⟨_, _, _, _, _, true, rfl, dty rfl, .ty "tuple", kit_ty (by decide +kernel), true, rfl, ?_⟩
  refine iff0 ⟨_, rfl, [.str wd, u], 0, .str wd, rfl, rfl, ⟨by decide, rfl⟩, hwk, (by decide +kernel), decide (wd = "blind"), by rw [eq_str], ?_⟩
  by_cases e2 : wd = "blind"
  · rw [decide_eq_true e2]
    have eacc : accB pn n rows cs y wd its = blB pn n rows cs y its := by
      unfold accB
      rw [if_neg (by rw [e2]; decide +kernel), if_pos e2]
    rw [eacc] at q
    refine iff1 ⟨_, rfl, pn, rfl, by omega, by omega, lc_map shD _ _ (fun d hd R hR => ?_) (by rw [List.length_nil, rng_len]; omega) ?_⟩
    · unfold rng at hd
      obtain ⟨z, hz, rfl⟩ := List.mem_map.mp hd
      have hz := List.mem_range.mp hz
      exact ⟨_, rfl, _, rfl, sh_int (by omega) (by omega), hR⟩
    rw [List.nil_append, Int.toNat_natCast]
    refine ⟨_, rfl, [.str wd, u], 1, u, rfl, rfl, ⟨by decide, rfl⟩, ?_⟩
    dsimp only
    rw [hu]
    refine ⟨_, .inr rfl, _, rfl, dI y, .inr rfl, rfl, rfl, !decide (its.length = n), ?_, ?_⟩
    · rw [eqD_int, List.length_map, List.length_map, y1]
      congr 2
      exact decide_eq_decide.mpr (by omega)
    by_cases hn : its.length = n
    rotate_left
    · rw [decide_eq_false hn]
      unfold blB at q
      rw [data_dig, decide_eq_false hn, Bool.false_and, Bool.false_and] at q
      exact q
    rw [decide_eq_true hn]
    refine iff0 ⟨_, rfl, [.str wd, u], 1, u, rfl, rfl, ⟨by decide, rfl⟩, ?_⟩
    dsimp only
    rw [hu]
    refine ⟨its.map itD, rfl, lc_map (fun d => .bl (((rng ((0 : Nat) : Int) pn).map shD).any fun z => eqD z (.str (reprD d)))) _ _ (fun d hd R hR => ?_) (by rw [List.length_nil, List.length_map]; omega) ?_⟩
    · obtain ⟨it, hit, rfl⟩ := List.mem_map.mp hd
      have hs := it_sm (hok it hit)
      exact ⟨_, rfl, _, rfl, hs.shows (by decide) (by decide), _, rfl, _, .inl rfl, okStr hs, okD_shs 0 pn (by omega), (by show 0 ≤ 60; decide), hR⟩
    refine ⟨its.map (inDig 0 pn), ?_, its.all (inDig 0 pn), ?_, ?_⟩
    · rw [List.nil_append, List.map_map, List.map_map]
      refine congrArg (fun l => [D.lst l]) (List.map_congr_left fun it hit => ?_)
      have := dig_any (lo := 0) (m := pn) (by omega) (hok it hit)
      rw [Nat.zero_add] at this
      exact congrArg D.bl this
    · rw [List.all_map]; rfl
    have hdd : dataB pn n (.tup (its.map itD)) = its.all (inDig 0 pn) := by rw [data_dig, decide_eq_true hn, Bool.true_and]
    unfold blB at q
    rw [hdd] at q
    cases had : its.all (inDig 0 pn) with
    | false =>
      rw [had, Bool.false_and] at q
      exact q
    | true =>
      rw [had, Bool.true_and] at q
      rw [had] at hdd
      obtain ⟨x1, x2⟩ := data_nums (by omega) hdd
      have hux : fgD u = tD (its.map numI) := by rw [hu, x1]; rfl
      generalize its.map numI = x at x2 q hux
      refine ⟨_, rfl, _, rfl, lc_map (fun d => .int (dot (prt rows (intsOf d)) x pn)) _ _ (fun d hd R hR => ?_) (by rw [List.length_nil, List.length_map]; omega) ?_⟩
      · obtain ⟨c, hc', rfl⟩ := List.mem_map.mp hd
        have hR' : R (.int (dot (prt rows (intsOf (tI c))) x pn)) M := hR
        rw [ints_tI] at hR'
        refine ⟨_, rfl, _, rfl, _, rfl, [.str wd, u], 1, u, rfl, rfl, ⟨by decide, rfl⟩, ?_⟩
        dsimp only
        rw [hux]
        exact ⟨_, rfl, rfl, pn, n, SP, rows, c, x, rfl, U, hw, hc.inn c hc', hR'⟩
      have em : ([] : List D) ++ (cs.map tI).map (fun d => D.int (dot (prt rows (intsOf d)) x pn)) = dI (cs.map fun c => dot (prt rows c) x pn) := by
        rw [List.nil_append, List.map_map]
        show _ = List.map D.int (List.map _ cs)
        rw [List.map_map]
        exact List.map_congr_left fun c _ => by show D.int (dot (prt rows (intsOf (tI c))) x pn) = D.int (dot (prt rows c) x pn); rw [ints_tI]
      rw [em]
      have ea := any_allI (fun c => dot (prt rows c) x pn) cs
      refine ⟨_, rfl, (cs.map fun c => dot (prt rows c) x pn).any (fun n => n != 0), rfl, ?_⟩
      rw [← ea] at q
      cases h9 : (cs.map fun c => dot (prt rows c) x pn).any fun n => n != 0 with
      | true =>
        rw [h9] at q
        exact q
      | false =>
        rw [h9] at q
        refine iff0 ⟨_, rfl, _, rfl, [.str wd, u], 1, u, rfl, rfl, ⟨by decide, rfl⟩, ?_⟩
        dsimp only
        rw [hux]
        refine ⟨_, rfl, rfl, _, _, pn, y, x, rfl, sum_ok U hy, .inr rfl, .inr rfl, rfl, rfl, ?_⟩
        have e0 : (!eqD (.int (vsum y x % (pn : Int))) (.int 0)) = (dot y x pn != 0) := by rw [eqD_int]; rfl
        rw [e0]
        exact q
  rw [decide_eq_false e2]
  refine iff0 ⟨_, rfl, [.str wd, u], 0, .str wd, rfl, rfl, ⟨by decide, rfl⟩, hwk, (by decide +kernel), !decide (wd = "combination"), by rw [eq_str], ?_⟩
  by_cases e1 : wd = "combination"
  rotate_left
  · rw [decide_eq_false e1]
    unfold accB at q
    rw [if_neg e1, if_neg e2] at q
    exact q
  rw [decide_eq_true e1]
  unfold accB at q
  rw [if_pos e1] at q
  refine iff0 ⟨_, rfl, [.str wd, u], 1, u, rfl, rfl, ⟨by decide, rfl⟩, ?_⟩
  dsimp only
  rw [hu]
  refine ⟨its.map itD, rfl, lc_map (fun d => .bl (prBD pn cs d)) _ _ (fun d hd R hR => ?_) (by rw [List.length_nil, List.length_map]; omega) ?_⟩
  · obtain ⟨it, hit, rfl⟩ := List.mem_map.mp hd
    have hR' : R (.bl (prBD pn cs (itD it))) M := hR
    rw [prBD_it (hok it hit)] at hR'
    exact ⟨_, rfl, _, rfl, _, rfl, rfl, pn, cs, it, rfl, by omega, by omega, by omega, hok it hit, hR'⟩
  refine ⟨its.map (prB pn cs), ?_, its.all (prB pn cs), ?_, ?_⟩
  · rw [List.nil_append, List.map_map, List.map_map]
    exact congrArg (fun l => [D.lst l]) (List.map_congr_left fun it hit => by show D.bl (prBD pn cs (itD it)) = D.bl (prB pn cs it); rw [prBD_it (hok it hit)])
  · rw [List.all_map]; rfl
  unfold combB at q
  cases hall : its.all (prB pn cs) with
  | false =>
    rw [hall, Bool.false_and, Bool.false_and] at q
    exact q
  | true =>
    rw [hall, Bool.true_and] at q
    have hpr : ∀ it ∈ its, ∃ x k, it = .pr x k ∧ x ∈ cs ∧ 1 ≤ k ∧ k ≤ (pn : Int) - 1 := fun it hit => prB_pr (List.all_eq_true.mp hall it hit)
    refine iff0 ⟨_, rfl, [.str wd, u], 1, u, rfl, rfl, ⟨by decide, rfl⟩, ?_⟩
    dsimp only
    rw [hu]
    refine ⟨its.map itD, rfl, lc_map fst1D _ _ (fun d hd R hR => ?_) (by rw [List.length_nil, List.length_map]; omega) ?_⟩
    · obtain ⟨it, hit, rfl⟩ := List.mem_map.mp hd
      obtain ⟨x, m, rfl, _⟩ := hpr it hit
      exact ⟨_, rfl, [tI x, .int m], 0, tI x, rfl, rfl, ⟨by decide, rfl⟩, hR⟩
    have em : ([] : List D) ++ (its.map itD).map fst1D = (its.map spt).map tI := by
      rw [List.nil_append, List.map_map, List.map_map]
      refine List.map_congr_left fun it hit => ?_
      obtain ⟨x, m, rfl, _⟩ := hpr it hit
      rfl
    rw [em]
    have hsp : ∀ r ∈ its.map spt, r ∈ tsp rows := fun r hr => by
      obtain ⟨it, hit, rfl⟩ := List.mem_map.mp hr
      obtain ⟨x, m, rfl, hx, _⟩ := hpr it hit
      exact hc.inn x hx
    refine ⟨_, rfl, _, rfl, its.map spt, tsp rows, 2, 10, rfl, by decide, fun r hr => ?_, by omega, fun ms ha hm => ?_⟩
    · have hx := hsp r hr
      obtain ⟨i, j, ps, fs, rfl, e1', e2', _, _⟩ := spot_in hw hx
      have hi := (List.getElem?_eq_some_iff.mp e1').1
      rw [List.length_map] at hi
      have h6 := hw.l6
      have hps : ps ∈ rows := by
        obtain ⟨ps', h1, h2⟩ := List.mem_map.mp (List.mem_of_getElem? e1')
        have : ps' = ps := tP_inj h2
        rw [← this]; exact h1
      have hj := (List.getElem?_eq_some_iff.mp e2').1
      rw [List.length_map] at hj
      have h3 := (hw.ps ps hps).2.1
      refine ⟨rfl, fun z hz => ?_, hx⟩
      rcases List.mem_cons.mp hz with rfl | hz
      · omega
      · rw [List.mem_singleton.mp hz]; omega
    have hset := asc_set (L := its.map spt) (fun x hx => tsp_two rows x (hsp x hx)) ha hm
    refine ⟨okD_tuples _, okD_tuples _, !ascG ((its.map spt).map tI), by rw [← hset]; exact congrArg (fun b => D.bl (!b)) (eqD_tups _ _), ?_⟩
    cases hasc : ascG ((its.map spt).map tI) with
    | false =>
      rw [hasc, Bool.false_and] at q
      exact q
    | true =>
      rw [hasc, Bool.true_and] at q
      refine iff0 ⟨(by show 1 ≤ sizeLine; rw [hsl]; decide), _, rfl, dI y, .inr rfl, n, by rw [List.length_map, y1], by omega, by omega, (by show 1 * (n : Int).toNat ≤ sizeLine; rw [Int.toNat_natCast]; omega), ?_⟩
      have ez : (List.replicate (n : Int).toNat [D.int 0]).flatten = dI (zero n) := by
        rw [Int.toNat_natCast]
        unfold zero
        show _ = List.map D.int _
        rw [List.map_replicate]
        exact List.flatten_replicate_singleton
      rw [ez]
      have hz : zero n ∈ allD (pn : Int) n := mem_allD (by omega) (by unfold zero; rw [List.length_replicate]) fun x hx => by unfold zero at hx; rw [(List.mem_replicate.mp hx).2]; exact ⟨Int.le_refl _, by omega⟩
      have hpr' : ∀ it ∈ its, ∃ x k, it = .pr x k ∧ x ∈ tsp rows ∧ 1 ≤ k ∧ k ≤ (pn : Int) - 1 := fun it hit => by
        obtain ⟨x, k, e, hx, h1, h2⟩ := hpr it hit
        exact ⟨x, k, e, hc.inn x hx, h1, h2⟩
      have hr : ∀ x ∈ tsp rows, prt rows x ∈ allD (pn : Int) n := fun x hx => prt_in hw hx
      refine ⟨_, rfl, [.str wd, u], 1, u, rfl, rfl, ⟨by decide, rfl⟩, ?_⟩
      dsimp only
      rw [hu]
      refine ⟨its.map itD, rfl, for_ind (fun k ρ M' => M' = M ∧ ∃ x7 x8 x9 x10 x11 x12 x13, ρ = [some (.int pn), some (.tup (rows.map tP)), some (.lst (cs.map tI)), some (tI y), some (.tup [.str wd, u]), some (.lst ((its.map spt).map tI)), some (.lst (dI (sumT pn n rows (its.take k)))), x7, x8, x9, x10, x11, x12, x13]) _ ?_ ?_ ⟨rfl, _, _, _, _, _, _, _, rfl⟩⟩
      · rintro k d ρ M' N hd ⟨rfl, x7, x8, x9, x10, x11, x12, x13, rfl⟩ hN
        have hk : k < its.length := by have := (List.getElem?_eq_some_iff.mp hd).1; rwa [List.length_map] at this
        rw [List.getElem?_map, List.getElem?_eq_getElem hk] at hd
        obtain ⟨x, f, e, hx, m1, m2⟩ := hpr' _ (List.getElem_mem hk)
        have hs := sum_snoc (p := pn) (n := n) (rows := rows) hk
        rw [e] at hd hs
        cases hd
        have h1 := sum_in (by omega : (0 : Int) < pn) hr (its := its.take k) fun it h => hpr' it (List.mem_of_mem_take h)
        rw [hs] at hN
        obtain ⟨f1, f2⟩ := allD_mem h1
        generalize sumT pn n rows (its.take k) = F at f1 f2 hN
        obtain ⟨i, j, ps, fs, rfl, e1', e2', e3, e4⟩ := spot_in hw hx
        have e5 : prT rows (.pr [(i : Int), (j : Int)] f) = (fs, f) := by show (prt rows _, f) = _; rw [show prt rows [(i : Int), (j : Int)] = fs from e3]
        rw [e5] at hN
        obtain ⟨z1, z2⟩ := allD_mem e4
        refine ⟨_, rfl, rfl, _, _, rfl, _, _, rfl, rfl, ?_⟩
        refine ⟨_, rfl, _, rfl, tI [(i : Int), (j : Int)], rfl, [.int (i : Int), .int (j : Int)], 0, _, rfl, rfl, ⟨by decide, rfl⟩, _, _, _, rfl, rfl, ⟨Int.natCast_nonneg _, e1'⟩, tI [(i : Int), (j : Int)], rfl, [.int (i : Int), .int (j : Int)], 1, _, rfl, rfl, ⟨by decide, rfl⟩, _, _, _, rfl, rfl, ⟨Int.natCast_nonneg _, e2'⟩, ?_⟩
        refine ⟨_, _, dI F, dI fs, rfl, .inl rfl, .inr rfl, ?_⟩
        refine lc_map (on2 fun a b => (a + f * b) % pn) _ _ (fun e he R hR => ?_) ?_ ?_
        · obtain ⟨a, b, ha, hb, rfl⟩ := pairs_mem _ _ _ he
          exact ⟨_, rfl, rfl, _, _, rfl, _, _, rfl, rfl, .int a, rfl, .int f, rfl, .int b, rfl, f, b, rfl, rfl, .inl ⟨by omega, by omega⟩, a, f * b, rfl, rfl, .inl ⟨_, rfl, .int pn, rfl, _, pn, rfl, rfl, by omega, hR⟩⟩
        · rw [List.length_nil, Pd.pairs_len, List.length_map]; omega
        · rw [List.nil_append, pairs_map, add_neg]
          exact hN _ _ ⟨rfl, _, _, _, _, _, _, _, rfl⟩
      · rintro ρ M' ⟨rfl, x7, x8, x9, x10, x11, x12, x13, rfl⟩
        rw [List.length_map, List.take_length]
        exact ⟨_, rfl, _, rfl, _, _, rfl, .inr rfl, okD_tup _, okD_tup y, by rw [show eqD (.lst (dI (sumT pn n rows its))) (.lst (dI y)) = decide (sumT pn n rows its = y) from eqD_tup _ _]; exact q⟩
end
end X
end K11
set_option Elab.async false
set_option linter.all false
set_option maxRecDepth 100000
set_option maxHeartbeats 4000000
namespace K11
namespace X
open PySem PySem.Spec PyProof.Rows L2 Pd Spc
section
variable {P : Program} {w : World} {K : PySem.W.Frag} {mg : Str → Option Value} {base : Heap}
theorem take1 (xs : List D) : Pd.cutD xs none (some 1) = xs.take 1 := by
  cases xs with
  | nil => rfl
  | cons x xs =>
    unfold Pd.cutD
    have e1 : HT.sIx (x :: xs).length 0 none = 0 := rfl
    have e2 : HT.sIx (x :: xs).length (x :: xs).length (some 1) = 1 := by
      unfold HT.sIx
      simp
      try omega
    rw [e1, e2]; rfl
def VV (v : D) : Prop := Vj v ∨ ∃ wd its, Vg v wd its
def W_bent : DC := fun ds M Q => ∃ (p : Int) (n : Nat) (cs : List (List Int)) (v : D) (wd : Str) (its : List It), ds = [.mu 0, .int p, .int n, .lst (cs.map tI), v] ∧ Src M ∧ 2 ≤ p ∧ p ≤ 7 ∧ 1 ≤ n ∧ n ≤ 4 ∧ cs.length ≤ 10 ∧ (∀ x ∈ cs, ∃ i j : Nat, x = [(i : Int), (j : Int)] ∧ i ≤ 9 ∧ j ≤ 9) ∧ Vg v wd its ∧ its.length ≤ 10 ∧ ∀ vs M', Src M' → vs.length ≤ 40 → (∀ v ∈ vs, VV v) → Q (.lst vs) M'
theorem ok_law_bent (T : Tx P w K mg) : FnOk P w K mg base CX0 4 T.a_law_bent T.f_law_bent ["_law_source_here", "_law_prime", "_law_size", "_law_spots_here", "_law_value_here"] (spD 5 W_bent K) := by
  refine pd_fn T.F_law_bent sc_law_bent (fun cdv A outer s H E hr => ⟨_, (pdss_cons (pds_set 5 sc_law_bent.nd (pd_call (ok_law_factors T) (hr.mono (by decide)) (by rfl) T.g_law_factors T.F_law_factors.kp T.b_law_factors (pda_cons (pd_name 0) (pda_cons (pd_name 1) (pda_cons (pd_name 2) pda_nil)))))
      (pdss_cons (pds_setLc 6 [("_law_spot", 8)] rfl sc_law_bent.nd rfl rfl (sw_true rfl rfl rfl (by decide +kernel)) (pdi_list (pd_call (ok_law_some T) (hr.mono (by decide)) (by rfl) T.g_law_some T.F_law_some.kp T.b_law_some (pda_cons (pd_name 0) (pda_cons (pd_name 3) (pda_cons pd_int pda_nil))))) (blkOk_by (N := ["_law_source_here", "_law_prime", "_law_size", "_law_spots_here", "_law_value_here", "_law_data", "_law_parts", "_law_some_here", "_law_spot"]) (sc := defScope s_law_bent) (by decide +kernel)) (fun _ _ _ _ _ => (pdg_name 8 sc_law_bent.nd)) (fun _ _ _ _ _ => pdts_nil) (fun _ _ _ _ _ => (pd_tup (pda_cons (pd_name 8) (pda_cons (pd_op op_add sr_I0i pd_int (pd_call (ok_law_draw T) (hr.mono (by decide)) (by rfl) T.g_law_draw T.F_law_draw.kp T.b_law_draw (pda_cons (pd_name 0) (pda_cons (pd_op op_sub sr_I0i (pd_name 1) pd_int) pda_nil)))) pda_nil)))))
      (pdss_cons (pds_set 7 sc_law_bent.nd (pd_lst (pda_cons (pd_tup (pda_cons pd_str (pda_cons (pd_name 5) pda_nil))) (pda_cons (pd_tup (pda_cons pd_str (pda_cons (pd_callTy call_tuple_of sc_tuple (by rfl) T.n_tuple (by decide +kernel) (pda_cons (pd_name 6) pda_nil)) pda_nil))) (pda_cons (pd_tup (pda_cons pd_str (pda_cons (pd_callTy call_list_of sc_list (by rfl) T.n_list (by decide +kernel) (pda_cons (pd_name 5) pda_nil)) pda_nil))) (pda_cons (pd_tup (pda_cons pd_str (pda_cons (pd_name 6) pda_nil))) (pda_cons (pd_name 4) pda_nil)))))))
      (pdss_cons (pds_set 7 sc_law_bent.nd (pd_op op_catL sr_catL (pd_name 7) (pd_lst (pda_cons (pd_tup (pda_cons (pd_ix ix_tup sr_ixT (pd_name 4) pd_int) (pda_cons (pd_revT (pd_fg (pd_ix ix_tup sr_ixT (pd_name 4) pd_int))) pda_nil))) (pda_cons (pd_tup (pda_cons (pd_ix ix_tup sr_ixT (pd_name 4) pd_int) (pda_cons (pd_op op_catA sr_catT (pd_fg (pd_ix ix_tup sr_ixT (pd_name 4) pd_int)) (pd_slS (pd_fg (pd_ix ix_tup sr_ixT (pd_name 4) pd_int)) pdo_no (pdo_some pd_int))) pda_nil))) (pda_cons (pd_tup (pda_cons (pd_ix ix_tup sr_ixT (pd_name 4) pd_int) (pda_cons (pd_slS (pd_fg (pd_ix ix_tup sr_ixT (pd_name 4) pd_int)) (pdo_some pd_int) pdo_no) pda_nil))) pda_nil))))))
      (pdss_cons (pds_set 7 sc_law_bent.nd (pd_op op_catL sr_catL (pd_name 7) (pd_lst (pda_cons (pd_callTy call_list_of sc_list (by rfl) T.n_list (by decide +kernel) (pda_cons (pd_name 4) pda_nil)) (pda_cons (pd_slS (pd_name 4) pdo_no (pdo_some pd_int)) (pda_cons (pd_op op_catA sr_catT (pd_name 4) (pd_tup (pda_cons pd_int pda_nil))) (pda_cons (pd_tup (pda_cons pd_str (pda_cons (pd_fg (pd_ix ix_tup sr_ixT (pd_name 4) pd_int)) pda_nil))) (pda_cons (pd_tup (pda_cons (pd_fg (pd_ix ix_tup sr_ixT (pd_name 4) pd_int)) (pda_cons (pd_ix ix_tup sr_ixT (pd_name 4) pd_int) pda_nil))) (pda_cons pd_non (pda_cons pd_int (pda_cons (pd_tup pda_nil) pda_nil)))))))))))
      (pdss_cons (pds_set 7 sc_law_bent.nd (pd_op op_catL sr_catL (pd_name 7) (pd_lst (pda_cons (pd_tup (pda_cons pd_str (pda_cons (pd_op op_repA sr_repT (pd_tup (pda_cons pd_bl pda_nil)) (pd_name 2)) pda_nil))) (pda_cons (pd_tup (pda_cons pd_str (pda_cons (pd_tup (pda_cons (pd_tup (pda_cons pd_non (pda_cons pd_int pda_nil))) pda_nil)) pda_nil))) (pda_cons (pd_tup (pda_cons pd_str (pda_cons (pd_tup (pda_cons (pd_tup (pda_cons (pd_tup (pda_cons pd_int (pda_cons pd_int pda_nil))) (pda_cons pd_int pda_nil))) pda_nil)) pda_nil))) pda_nil))))))
      (pdss_cons (pds_set 7 sc_law_bent.nd (pd_op op_catL sr_catL (pd_name 7) (pd_lst (pda_cons (pd_tup (pda_cons pd_str (pda_cons (pd_callTy call_tuple_of sc_tuple (by rfl) T.n_tuple (by decide +kernel) (pda_cons (pd_lc [("_law_spot", 8)] rfl sc_law_bent.nd (pdi_list (pd_name 3)) (blkOk_by (N := ["_law_source_here", "_law_prime", "_law_size", "_law_spots_here", "_law_value_here", "_law_data", "_law_parts", "_law_some_here", "_law_spot"]) (sc := defScope s_law_bent) (by decide +kernel)) (fun _ _ _ _ _ => (pdg_name 8 sc_law_bent.nd)) (fun _ _ _ _ _ => pdts_nil) (fun _ _ _ _ _ => (pd_tup (pda_cons (pd_name 8) (pda_cons pd_int pda_nil))))) pda_nil)) pda_nil))) (pda_cons (pd_tup (pda_cons pd_str (pda_cons (pd_tup pda_nil) pda_nil))) pda_nil)))))
      (pdss_one (pds_ret (pd_op op_catL sr_catL (pd_name 7) (pd_lst (pda_cons (pd_tup (pda_cons pd_str (pda_cons (pd_fg (pd_ix ix_tup sr_ixT (pd_name 4) pd_int)) pda_nil))) (pda_cons (pd_tup (pda_cons pd_str (pda_cons (pd_fg (pd_ix ix_tup sr_ixT (pd_name 4) pd_int)) pda_nil))) (pda_cons (pd_tup (pda_cons pd_str (pda_cons (pd_op op_repA sr_repT (pd_tup (pda_cons pd_int pda_nil)) (pd_name 2)) pda_nil))) (pda_cons (pd_tup (pda_cons pd_str (pda_cons pd_int pda_nil))) pda_nil))))))))))))))), fun ds M Q hl h => ?_⟩)
  obtain ⟨p, n, cs, v, wd, its, rfl, hs, hp2, hp7, hn1, hn4, hcl, hcs, ⟨⟨u, rfl, hu⟩, hok, hl20, hwk⟩, hl10, q⟩ := h
  have hsl : sizeLine = 16777216 := by decide
  refine ⟨_, rfl, _, rfl, _, rfl, rfl, p, n, rfl, hs.at, by omega, by omega, by omega, fun fs M1 hc1 hfl hin => ?_⟩
  have hs1 := hs.cu hc1
  refine ⟨_, rfl, _, rfl, rfl, cs, rfl, hs1, hcl, fun ys M2 hs2 hsub => ⟨_, rfl, ?_⟩⟩
  have hyl := hsub.length_le
  refine lc_indT (fun k acc M' => Src M' ∧ ∃ ps : List It, acc = ps.map itD ∧ ps.length = k ∧ ∀ it ∈ ps, ItOk it) _ (by rw [List.length_map]; omega) (fun k acc M h => by
    obtain ⟨_, ps, rfl, h, _⟩ := h
    rw [List.length_map, h]; exact Nat.le_refl _) (fun k d acc M' R S hd hI hR hS => ?_) (fun acc M3 hI => ?_) ⟨hs2, [], rfl, rfl, fun _ h => nomatch h⟩
  · obtain ⟨hs', ps, rfl, hpl, hpo⟩ := hI
    have hk : k < ys.length := by have := (List.getElem?_eq_some_iff.mp hd).1; rwa [List.length_map] at this
    rw [List.getElem?_map, List.getElem?_eq_getElem hk] at hd
    cases hd
    have hx := hcs _ (hsub.subset (List.getElem_mem hk))
    generalize ys[k] = x at hx hR hS
    obtain ⟨i, j, rfl, i9, j9⟩ := hx
    refine ⟨_, rfl, _, rfl, _, rfl, p, 1, rfl, rfl, rfl, p - 1, rfl, hs'.at, by omega, by omega, fun r M4 hc4 r0 r1 => ⟨1, r, rfl, rfl, (by show 2 ≤ sizeLine; rw [hsl]; decide), ?_⟩⟩
    refine hR _ _ ⟨hs'.cu hc4, ps ++ [.pr [(i : Int), (j : Int)] (1 + r)], by rw [List.map_append]; rfl, by rw [List.length_append, hpl]; rfl, fun it hit => ?_⟩
    rcases List.mem_append.mp hit with hit | hit
    · exact hpo it hit
    · rw [List.mem_singleton.mp hit]
      exact ⟨⟨i, j, rfl, i9, j9⟩, by omega, by omega⟩
  obtain ⟨hs3, ps, rfl, hpl, hpo⟩ := hI
  rw [List.length_map] at hpl
  have two : 2 ≤ sizeLine := by rw [hsl]; decide
  refine ⟨_, rfl, two, ?_⟩
  refine ⟨_, rfl, _, _, rfl, .inl rfl, two, ?_⟩
  refine ⟨_, rfl, _, _, rfl, .inr rfl, two, ?_⟩
  refine ⟨_, rfl, two, ?_⟩
  refine ⟨_, rfl, (by show 5 ≤ sizeLine; rw [hsl]; decide), ?_⟩
  have lm : (its.map itD).length = its.length := List.length_map _
  refine ⟨_, rfl, ?_⟩
  refine ⟨_, rfl, [.str wd, u], 0, .str wd, rfl, rfl, ⟨by decide, rfl⟩, _, rfl, [.str wd, u], 1, u, rfl, rfl, ⟨by decide, rfl⟩, ?_⟩
  dsimp only
  rw [hu]
  refine ⟨its.map itD, rfl, two, ?_⟩
  refine ⟨_, rfl, [.str wd, u], 0, .str wd, rfl, rfl, ⟨by decide, rfl⟩, _, rfl, [.str wd, u], 1, u, rfl, rfl, ⟨by decide, rfl⟩, ?_⟩
  dsimp only
  rw [hu]
  refine ⟨_, rfl, [.str wd, u], 1, u, rfl, rfl, ⟨by decide, rfl⟩, ?_⟩
  dsimp only
  rw [hu]
  refine ⟨its.map itD, .inr rfl, 1, rfl, ?_⟩
  refine ⟨its.map itD, cutD (its.map itD) none (some 1), rfl, rfl, ?_, two, ?_⟩
  · rw [take1, List.length_take, lm]; omega
  refine ⟨_, rfl, [.str wd, u], 0, .str wd, rfl, rfl, ⟨by decide, rfl⟩, _, rfl, [.str wd, u], 1, u, rfl, rfl, ⟨by decide, rfl⟩, ?_⟩
  dsimp only
  rw [hu]
  refine ⟨its.map itD, .inr rfl, 1, rfl, two, ?_⟩
  refine ⟨(by show 3 ≤ sizeLine; rw [hsl]; decide), ?_⟩
  refine ⟨_, _, rfl, rfl, (by show 5 + 3 ≤ sizeLine; rw [hsl]; decide), ?_⟩
  have ix1 : ∀ (Z : D → Prop), Z (.tup (its.map itD)) → Z (fgD u) := fun Z h => by rw [hu]; exact h
  refine ⟨_, rfl, ?_⟩
  refine ⟨_, rfl, _, _, rfl, .inr rfl, ?_⟩
  refine ⟨_, rfl, [.str wd, u], .inr rfl, 1, rfl, ?_⟩
  refine ⟨_, rfl, (by show 1 ≤ sizeLine; rw [hsl]; decide), [.str wd, u], [.int 1], rfl, rfl, (by show 2 + 1 ≤ sizeLine; rw [hsl]; decide), ?_⟩
  refine ⟨_, rfl, [.str wd, u], 1, u, rfl, rfl, ⟨by decide, rfl⟩, ?_⟩
  dsimp only
  rw [hu]
  refine ⟨two, _, rfl, [.str wd, u], 1, u, rfl, rfl, ⟨by decide, rfl⟩, ?_⟩
  dsimp only
  rw [hu]
  refine ⟨_, rfl, [.str wd, u], 0, .str wd, rfl, rfl, ⟨by decide, rfl⟩, two, (by show 0 ≤ sizeLine; exact Nat.zero_le _), ?_⟩
  refine ⟨(by show 8 ≤ sizeLine; rw [hsl]; decide), ?_⟩
  refine ⟨_, _, rfl, rfl, (by show 8 + 8 ≤ sizeLine; rw [hsl]; decide), ?_⟩
  have one : 1 ≤ sizeLine := by rw [hsl]; decide
  refine ⟨_, rfl, ?_⟩
  refine ⟨one, _, rfl, [.bl true], n, rfl, rfl, (by simp), by omega, by omega, (by decide), two, ?_⟩
  refine ⟨two, one, two, ?_⟩
  refine ⟨two, two, one, two, ?_⟩
  refine ⟨(by show 3 ≤ sizeLine; rw [hsl]; decide), ?_⟩
  refine ⟨_, _, rfl, rfl, (by show 16 + 3 ≤ sizeLine; rw [hsl]; decide), ?_⟩
  refine ⟨_, rfl, _, rfl, _, rfl, lc_map (fun d => .tup [d, .int 0]) _ _ (fun d hd R hR => ⟨_, rfl, two, hR⟩) (by rw [List.length_nil, List.length_map]; omega) ?_⟩
  have ecs : ([] : List D) ++ (cs.map tI).map (fun d => D.tup [d, .int 0]) = (cs.map fun x => It.pr x 0).map itD := by
    rw [List.nil_append, List.map_map, List.map_map]; rfl
  rw [ecs]
  refine ⟨_, _, rfl, .inl rfl, two, Nat.zero_le _, two, two, ?_⟩
  refine ⟨_, _, rfl, rfl, (by show 19 + 2 ≤ sizeLine; rw [hsl]; decide), ?_⟩
  refine ⟨_, rfl, ?_⟩
  refine ⟨_, rfl, [.str wd, u], 1, u, rfl, rfl, ⟨by decide, rfl⟩, ?_⟩
  dsimp only
  rw [hu]
  refine ⟨two, _, rfl, [.str wd, u], 1, u, rfl, rfl, ⟨by decide, rfl⟩, ?_⟩
  dsimp only
  rw [hu]
  refine ⟨two, one, _, rfl, [.int 0], n, rfl, rfl, (by simp), by omega, by omega, (by decide), two, two, (by show 4 ≤ sizeLine; rw [hsl]; decide), ?_⟩
  refine ⟨_, _, rfl, rfl, (by show 21 + 4 ≤ sizeLine; rw [hsl]; decide), ?_⟩
  refine q _ _ hs3 (by show 25 ≤ 40; decide) ?_
  have okb : okD (.str "blind") = true := by kernel_rfl
  have okc : okD (.str "combination") = true := by kernel_rfl
  have oke : okD (.str "") = true := by kernel_rfl
  have gd : ∀ (w : Str) (L : List It), okD (.str w) = true → (∀ it ∈ L, ItOk it) → L.length ≤ 20 → VV (.tup [.str w, .tup (L.map itD)]) := fun w L h1 h2 h3 => .inr ⟨w, L, ⟨_, rfl, rfl⟩, h2, h3, h1⟩
  have efs : dI fs = (fs.map It.num).map itD := by rw [List.map_map]; rfl
  have hfs : ∀ it ∈ fs.map It.num, ItOk it := fun it hit => by
    obtain ⟨i, hi, rfl⟩ := List.mem_map.mp hit
    have := hin i hi
    exact ⟨this.1, by omega⟩
  have erep : ∀ (it : It), (List.replicate (n : Int).toNat [itD it]).flatten = (List.replicate n it).map itD := fun it => by
    rw [Int.toNat_natCast, List.flatten_replicate_singleton, List.map_replicate]
  have hrep : ∀ (it : It), ItOk it → ∀ x ∈ List.replicate n it, ItOk x := fun it h x hx => by rw [(List.mem_replicate.mp hx).2]; exact h
  have hrl : ∀ (it : It), (List.replicate n it).length ≤ 20 := fun it => by rw [List.length_replicate]; omega
  intro v hv
  simp only [List.mem_append, List.mem_cons, List.mem_nil_iff, or_false, List.not_mem_nil, false_or] at hv
  have hps : ps.length ≤ 20 := by omega
  rcases hv with (((((rfl | rfl | rfl | rfl | rfl) | rfl | rfl | rfl) | rfl | rfl | rfl | rfl | rfl | rfl | rfl | rfl) | rfl | rfl | rfl) | rfl | rfl) | rfl | rfl | rfl | rfl
  · rw [efs]; exact gd _ _ okb hfs (by rw [List.length_map]; omega)
  · exact gd _ _ okc hpo hps
  · exact .inl (.ts "blind" _ "list" rfl rfl rfl (by decide) okb)
  · exact .inl (.ts "combination" _ "list" rfl rfl rfl (by decide) okc)
  · exact .inr ⟨wd, its, ⟨u, rfl, hu⟩, hok, hl20, hwk⟩
  · rw [← List.map_reverse]; exact gd _ _ hwk (fun it h => hok it (List.mem_reverse.mp h)) (by rw [List.length_reverse]; exact hl20)
  · rw [take1, ← List.map_take, ← List.map_append]
    exact gd _ _ hwk (fun it h => (List.mem_append.mp h).elim (hok it) fun h => hok it (List.mem_of_mem_take h)) (by rw [List.length_append, List.length_take]; omega)
  · rw [drop1, ← List.map_drop]
    exact gd _ _ hwk (fun it h => hok it (List.mem_of_mem_drop h)) (by rw [List.length_drop]; omega)
  · exact .inl (.nt "list" rfl (by decide))
  · rw [take1]; exact .inl (.ln [.str wd] rfl (by show 1 ≠ 2; decide))
  · exact .inl (.ln _ rfl (by show 3 ≠ 2; decide))
  · exact gd _ _ oke hok hl20
  · exact .inl (.ti _ _ rfl)
  · exact .inl (.nt "NoneType" rfl (by decide))
  · exact .inl (.nt "int" rfl (by decide))
  · exact .inl (.ln [] rfl (by show 0 ≠ 2; decide))
  · rw [show D.bl true = itD .tru from rfl, erep]; exact gd _ _ okb (hrep _ trivial) (hrl _)
  · exact gd "combination" [.np] okc (fun it h => by rw [List.mem_singleton.mp h]; trivial) (by decide)
  · exact gd "combination" [.pr [9, 9] 1] okc (fun it h => by rw [List.mem_singleton.mp h]; exact ⟨⟨9, 9, rfl, by decide, by decide⟩, by decide, by decide⟩) (by decide)
  · refine gd _ _ okc (fun it h => ?_) (by rw [List.length_map]; omega)
    obtain ⟨x, hx, rfl⟩ := List.mem_map.mp h
    exact ⟨hcs x hx, by decide, by decide⟩
  · exact gd "combination" [] okc (fun it h => nomatch h) (by decide)
  · exact gd _ _ okb hok hl20
  · exact gd _ _ okc hok hl20
  · rw [show D.int 0 = itD (.num 0) from rfl, erep]; exact gd _ _ okb (hrep _ ⟨by decide, by decide⟩) (hrl _)
  · exact .inl (.ts "blind" _ "int" rfl rfl rfl (by decide) okb)
end
end X
end K11
set_option Elab.async false
set_option linter.all false
set_option maxRecDepth 100000
set_option maxHeartbeats 4000000
namespace K11
open PySem PySem.Spec PyProof.Rows L2 Pd Spc X
theorem lt_tPs (rows : List (List (List Int))) : (rows.map tP).map lt = rows.map tP := by
  rw [List.map_map]; rfl
theorem dsel_it (p : Int) (sel : List (List Int × Int)) : sel.map dSel = (sel.map fun t => It.pr t.1 t.2).map itD := by
  rw [List.map_map]; rfl
theorem sel_mem {p : Int} {n : Nat} {rows : List (List (List Int))} {cs : List (List Int)} {y : Rw} (hp : 0 < p) : ∀ t ∈ selOf p n rows cs y, t.1 ∈ cs ∧ 0 < t.2 ∧ t.2 < p := fun t ht => by
  unfold selOf at ht
  obtain ⟨h1, h2⟩ := List.mem_filter.mp ht
  have h2' : t.2 ≠ 0 := by simpa using h2
  obtain ⟨h3, h4⟩ := List.of_mem_zip (show (t.1, t.2) ∈ _ from h1)
  obtain ⟨a, _, e⟩ := List.mem_map.mp h4
  have k1 := Int.emod_nonneg (-a) (by omega : p ≠ 0)
  have k2 := Int.emod_lt_of_pos (-a) hp
  exact ⟨h3, by omega, by omega⟩
theorem zip_sub : ∀ (cs : List (List Int)) (fs : List Int), ((cs.zip fs).map (·.1)).Sublist cs
  | [], _ => List.nil_sublist _
  | _ :: _, [] => List.nil_sublist _
  | c :: cs, f :: fs => (zip_sub cs fs).cons₂ c
theorem sel_sub {p : Int} {n : Nat} {rows : List (List (List Int))} {cs : List (List Int)} {y : Rw} : ((selOf p n rows cs y).map (·.1)).Sublist cs := by
  unfold selOf
  exact ((List.filter_sublist).map _).trans (zip_sub _ _)
theorem spot_nine {p : Int} {n : Nat} {rows : List (List (List Int))} (hw : RwOk p n rows) {x : List Int} (hx : x ∈ tsp rows) : ∃ i j : Nat, x = [(i : Int), (j : Int)] ∧ i ≤ 9 ∧ j ≤ 9 := by
  obtain ⟨i, j, ps, fs, rfl, e1, e2, _, _⟩ := spot_in hw hx
  have hi := (List.getElem?_eq_some_iff.mp e1).1
  rw [List.length_map] at hi
  have h6 := hw.l6
  have hps : ps ∈ rows := by
    obtain ⟨ps', h1, h2⟩ := List.mem_map.mp (List.mem_of_getElem? e1)
    have : ps' = ps := tP_inj h2
    rw [← this]; exact h1
  have hj := (List.getElem?_eq_some_iff.mp e2).1
  rw [List.length_map] at hj
  have h3 := (hw.ps ps hps).2.1
  exact ⟨i, j, rfl, by omega, by omega⟩
theorem have_told {S TC : Addr} {p : Int} {n : Nat} {SP : List (List Rw)} {rows : List (List (List Int))} {cs : List (List Int)} {y : Rw} {Q : D → Ms → Prop} {M : Ms} (U : Univ p n SP) (hw : RwOk p n rows) (hc : Cs rows cs) (hcl : cs.length ≤ 10) (hy : y ∈ allD p n) (hM : okM M)
    (h : ∀ v wd its, Vg v wd its → its.length ≤ 10 → accB p n rows cs y wd its = true → Q v M) : W_have S TC [dTab S TC p n rows, .lst (cs.map tI), dSum S p (tI y)] M Q := by
  refine ⟨p, n, SP, rows, cs, .tup (dI y), y, rfl, U, hw, hc, rfl, hy, hM, ?_⟩
  have okb : okD (.str "blind") = true := by kernel_rfl
  have okc : okD (.str "combination") = true := by kernel_rfl
  have hp2 := U.p2
  have hp7 := U.p7
  have hn4 := U.n4
  have hrows : ∀ r ∈ cs.map (prt rows), r ∈ allD p n := fun r hr => by obtain ⟨x, hx, rfl⟩ := List.mem_map.mp hr; exact prt_in hw (hc.inn x hx)
  have hzs : zs p n (red p (cs.map (prt rows))) = (allD p n).filter fun d => (cs.map (prt rows)).all fun r => dot r d p == 0 := by
    rw [← U.zs0]; exact zs_fold U _ [] U.nil hrows
  have hRS : red p (cs.map (prt rows)) ∈ SP := red_in U _ _ U.nil hrows
  obtain ⟨_, _, hb, hcz⟩ := U.step _ hRS y hy
  cases hz : nz (rmd p (red p (cs.map (prt rows))) y) with
  | true =>
    rw [if_pos rfl, hb]
    rw [hz] at hcz
    cases hf : (zs p n (red p (cs.map (prt rows)))).find? (fun d => dot y d p != 0) with
    | none => rw [hf] at hcz; cases hcz
    | some d =>
      have h1 := List.find?_some hf
      have h2 := List.mem_of_find?_eq_some hf
      rw [hzs] at h2
      obtain ⟨h3, h4⟩ := List.mem_filter.mp h2
      obtain ⟨d1, d2⟩ := allD_mem h3
      have en : (d.map It.num).map numI = d := by
        rw [List.map_map]
        exact List.map_id _
      refine h _ "blind" (d.map It.num) ⟨⟨_, rfl, by rw [List.map_map]; rfl⟩, fun it hit => ?_, by rw [List.length_map]; omega, okb⟩ (by rw [List.length_map]; omega) ?_
      · obtain ⟨i, hi, rfl⟩ := List.mem_map.mp hit
        have := d2 i hi
        exact ⟨this.1, by omega⟩
      · unfold accB
        rw [if_neg (by decide +kernel), if_pos rfl]
        unfold blB
        rw [data_dig, en, List.length_map, decide_eq_true d1, List.all_map]
        rw [List.all_map] at h4
        have e1 : (d.all (inDig 0 p ∘ It.num)) = true := List.all_eq_true.mpr fun i hi => by
          have := d2 i hi
          show (decide (0 ≤ i) && decide (i < p)) = true
          rw [decide_eq_true this.1, decide_eq_true this.2]; rfl
        have e2 : (cs.all fun c => dot (prt rows c) d p == 0) = true := h4
        rw [e1, e2, h1]; rfl
  | false =>
    rw [if_neg Bool.false_ne_true, dsel_it p]
    have hgiv := (sel_ok U hw hc hy).giv hz
    have hmem := sel_mem (p := p) (n := n) (rows := rows) (cs := cs) (y := y) (by omega)
    have hsub := sel_sub (p := p) (n := n) (rows := rows) (cs := cs) (y := y)
    have hlen := hsub.length_le
    rw [List.length_map] at hlen
    generalize selOf p n rows cs y = ts at hgiv hmem hsub hlen ⊢
    refine h _ "combination" _ ⟨⟨_, rfl, rfl⟩, fun it hit => ?_, by rw [List.length_map]; omega, okc⟩ (by rw [List.length_map]; omega) ?_
    · obtain ⟨t, ht, rfl⟩ := List.mem_map.mp hit
      obtain ⟨m1, m2, m3⟩ := hmem t ht
      exact ⟨spot_nine hw (hc.inn _ m1), by omega, by omega⟩
    · unfold accB
      rw [if_pos rfl]
      have e1 : combB p cs (ts.map fun t => It.pr t.1 t.2) = true := by
        unfold combB
        rw [Bool.and_eq_true, List.all_eq_true]
        refine ⟨fun it hit => ?_, ?_⟩
        · obtain ⟨t, ht, rfl⟩ := List.mem_map.mp hit
          obtain ⟨m1, m2, m3⟩ := hmem t ht
          show (decide _ && (decide _ && decide _)) = true
          rw [decide_eq_true m1, decide_eq_true (by omega : 1 ≤ t.2), decide_eq_true (by omega : t.2 ≤ p - 1)]; rfl
        · rw [show (ts.map fun t => It.pr t.1 t.2).map spt = ts.map (·.1) by rw [List.map_map]; rfl]
          exact asc_spots (hc.asc.sublist hsub)
      have e2 : sumT p n rows (ts.map fun t => It.pr t.1 t.2) = y := by
        unfold sumT
        rw [List.map_map]
        exact hgiv
      rw [e1, e2, decide_eq_true rfl]; rfl
section
variable {P : Program} {w : World} {K : PySem.W.Frag} {mg : Str → Option Value} {base : Heap}
def W_law : DC := fun ds M Q => ∃ ns : List Int, ds = [.lst (dI ns)] ∧ M = [] ∧ Q (.bl true) []
theorem ok_law (T : Tx P w K mg) : FnG P w K mg base 16 T.a_law T.f_law ["_law_script"] (spD 1 W_law K) := by
  refine pd_fnG T.F_law sc_law (fun cdv A outer s H E hgu hr => ⟨_, (pdss_cons (pds_for PassesOwn.never rfl (pdi_range1 (by rfl) T.n_range (pda_cons (pd_callB (call_max2 rfl) sc_max (by rfl) T.n_max (by decide +kernel) (pda_cons pd_int (pda_cons (pd_callB (call_min2 rfl) sc_min (by rfl) T.n_min (by decide +kernel) (pda_cons (pd_callB call_len_seq sc_len (by rfl) T.n_len (by decide +kernel) (pda_cons (pd_name 0) pda_nil)) (pda_cons pd_int pda_nil))) pda_nil))) pda_nil)) (pdg_name 1 sc_law.nd) (pdss_newN (i := 2) sc_law.nd (ok_law_source T) (hr.mono (by decide)) (by rfl) T.g_law_source T.F_law_source.kp T.b_law_source (pda_cons (pd_name 0) (pda_cons (pd_name 1) pda_nil))
      (pdss_cons (pds_asg (pd_call (ok_law_form T) (hr.mono (by decide)) (by rfl) T.g_law_form T.F_law_form.kp T.b_law_form (pda_cons (pd_name 2) pda_nil)) (pdg_tup (n := 2) rfl (pdgs_cons (pdg_name 6 sc_law.nd) (pdgs_cons (pdg_name 7 sc_law.nd) pdgs_nil))))
      (pdss_cons (pds_set 3 sc_law.nd (pd_call (ok_law_pieces T) (hr.mono (by decide)) (by rfl) T.g_law_pieces T.F_law_pieces.kp T.b_law_pieces (pda_cons (pd_name 2) (pda_cons (pd_name 6) (pda_cons (pd_name 7) (pda_cons pd_int pda_nil))))))
      (pdss_cons (pds_set 4 sc_law.nd (pd_make T.m_Table (ok_Table_init T) (hr.mono (by decide)) (by rfl) T.g_Table T.b_Table_init (pda_cons (pd_name 6) (pda_cons (pd_name 7) (pda_cons (pd_name 3) pda_nil)))))
      (pdss_one (pds_for PassesOwn.never rfl (pdi_range1 (by rfl) T.n_range (pda_cons pd_int pda_nil)) (pdg_name 5 sc_law.nd) (pdss_cons (pds_par 11 12 rfl sc_law.nd (pda_cons (pd_call (ok_law_some T) (hr.mono (by decide)) (by rfl) T.g_law_some T.F_law_some.kp T.b_law_some (pda_cons (pd_name 2) (pda_cons (pd_call (ok_law_spots T) (hr.mono (by decide)) (by rfl) T.g_law_spots T.F_law_spots.kp T.b_law_spots (pda_cons (pd_name 3) pda_nil)) (pda_cons pd_int pda_nil)))) (pda_cons (pd_call (ok_law_factors T) (hr.mono (by decide)) (by rfl) T.g_law_factors T.F_law_factors.kp T.b_law_factors (pda_cons (pd_name 2) (pda_cons (pd_name 6) (pda_cons (pd_name 7) pda_nil)))) pda_nil)) (by decide))
      (pdss_cons (pds_set 8 sc_law.nd (pd_make T.m_Sum (ok_Sum_init T) (hr.mono (by decide)) (by rfl) T.g_Sum T.b_Sum_init (pda_cons (pd_name 6) (pda_cons (pd_name 12) pda_nil))))
      (pdss_cons (pds_set 9 sc_law.nd (pd_call (ok_have T) (hr.mono (by decide)) (by rfl) T.g_have T.F_have.kp T.b_have (pda_cons (pd_name 4) (pda_cons (pd_name 11) (pda_cons (pd_name 8) pda_nil)))))
      (pdss_cons (pds_if (pdt_cmp op_notB sr_notB (pd_call (ok_is_have T) (hr.mono (by decide)) (by rfl) T.g_is_have T.F_is_have.kp T.b_is_have (pda_cons (pd_name 4) (pda_cons (pd_name 11) (pda_cons (pd_name 8) (pda_cons (pd_name 9) pda_nil))))) pd_bl (nomark _)) (pdss_one (pds_ret pd_bl)) pdss_nil)
      (pdss_one (pds_for PassesOwn.never rfl (pdi_list (pd_call (ok_law_bent T) (hr.mono (by decide)) (by rfl) T.g_law_bent T.F_law_bent.kp T.b_law_bent (pda_cons (pd_name 2) (pda_cons (pd_name 6) (pda_cons (pd_name 7) (pda_cons (pd_name 11) (pda_cons (pd_name 9) pda_nil))))))) (pdg_name 10 sc_law.nd) (pdss_one (pds_if (pdt_cmp (op_neD hr.units) sr_ne (pd_call (ok_is_have T) (hr.mono (by decide)) (by rfl) T.g_is_have T.F_is_have.kp T.b_is_have (pda_cons (pd_name 4) (pda_cons (pd_name 11) (pda_cons (pd_name 8) (pda_cons (pd_name 10) pda_nil))))) (pd_callG hgu (ok_law_accepts T) (hr.mono (by decide)) (by rfl) T.g_law_accepts T.F_law_accepts.kp T.b_law_accepts (pda_cons (pd_name 6) (pda_cons (pd_name 3) (pda_cons (pd_name 11) (pda_cons (pd_name 12) (pda_cons (pd_name 10) pda_nil)))))) (nomark _)) (pdss_one (pds_ret pd_bl)) pdss_nil)))))))))))))))
      (pdss_one (pds_ret pd_bl))), fun ds M Q hl h => ?_⟩)
  obtain ⟨ns, rfl, rfl, q⟩ := h
  have hsl : sizeLine = 16777216 := by decide
  have hr1 : ∀ n : Nat, -(2 ^ 62) ≤ (if (if (8 : Int) < (n : Int) then (8 : Int) else (n : Int)) > 1 then (if (8 : Int) < (n : Int) then (8 : Int) else (n : Int)) else 1) ∧ (if (if (8 : Int) < (n : Int) then (8 : Int) else (n : Int)) > 1 then (if (8 : Int) < (n : Int) then (8 : Int) else (n : Int)) else 1) < 2 ^ 62 := fun n => by
    constructor <;> (repeat' split) <;> omega
  refine ⟨_, rfl, dI ns, .inl rfl, _, _, rfl, _, _, rfl, _, rfl, (hr1 _).1, (hr1 _).2, ?_⟩
  refine for_ind (fun i ρ M => M = [] ∧ ∃ x1 x2 x3 x4 x5 x6 x7 x8 x9 x10 x11 x12, ρ = [some (.lst (dI ns)), x1, x2, x3, x4, x5, x6, x7, x8, x9, x10, x11, x12]) _ ?_ ?_ ⟨rfl, none, none, none, none, none, none, none, none, none, none, none, none, rfl⟩
  · rintro i d ρ M N hd ⟨rfl, x1, x2, x3, x4, x5, x6, x7, x8, x9, x10, x11, x12, rfl⟩ hN
    obtain ⟨kk, _, rfl⟩ := List.mem_map.mp (List.mem_of_getElem? hd)
    refine ⟨_, rfl, .int _, rfl, rfl, ns, _, rfl, by omega, fun n0 s0 h0 h1 => ⟨rfl, ?_⟩⟩
    have hs0 : Src ([] ++ [.lst [.int n0, .int s0]]) := ⟨n0, s0, rfl, h0, h1⟩
    refine ⟨_, rfl, rfl, rfl, hs0.at, fun p n SP M1 hc1 U => ⟨_, rfl, rfl, _, _, rfl, _, _, rfl, rfl, ?_⟩⟩
    have hs1 := hs0.cu hc1
    have hp2 := U.p2
    have hp7 := U.p7
    have hn := U.n4
    have hn1 := U.n1
    refine ⟨_, rfl, .int p, rfl, .int n, rfl, rfl, p, n, SP, rfl, hs1, U, fun rows M2 hs2 hw => ?_⟩
    refine ⟨.int p, rfl, .int n, rfl, .tup (rows.map tP), rfl, rfl, _, p, n, SP, _, _, rows, rfl, .inr rfl, lt_tPs rows, get_last _ _, okM_apI hs2.ok, U, hw, M2, _, rfl, set_last _ _ _, rfl, ap_tb _ _ _ _ _, hs2.ok, ?_⟩
    refine ⟨6, rfl, by decide, by decide, ?_⟩
    refine for_ind (fun k ρ M' => Src M' ∧ ∃ x5 x8 x9 x10 x11 x12, ρ = [some (.lst (dI ns)), some (.int (0 + (kk : Int))), some (.mu 0), some (.tup (rows.map tP)), some (dTab T.a_Sum T.a_Table p n rows), x5, some (.int p), some (.int n), x8, x9, x10, x11, x12]) _ ?_ ?_ ⟨hs2, _, _, _, _, _, _, rfl⟩
    · rintro k d ρ M3 N2 hd ⟨hs3, x5, x8, x9, x10, x11, x12, rfl⟩ hN2
      refine ⟨.mu 0, rfl, _, rfl, rfl, p, n, rows, rfl, hw, rfl, tsp rows, rfl, hs3, tsp_len hw, fun cs M4 hs4 hsub => ?_⟩
      have hc : Cs rows cs := ⟨fun x hx => hsub.subset hx, (spotsFrom_asc _ _).sublist hsub, hsub.length_le⟩
      have hcl : cs.length ≤ 10 := Nat.le_trans hc.len (tsp_len hw)
      refine ⟨_, rfl, _, rfl, _, rfl, rfl, p, n, rfl, hs4.at, by omega, by omega, by omega, fun y M5 hc5 hyl hyin => ?_⟩
      have hs5 := hs4.cu hc5
      have hy : y ∈ allD p n := mem_allD (by omega) hyl hyin
      refine ⟨_, _, rfl, ?_⟩
      refine ⟨_, rfl, tI y, rfl, rfl, _, p, tI y, y, rfl, get_last _ _, sum_ok U hy, .inr (.inl ⟨rfl, M5, _, rfl, set_last _ _ _, rfl, apSumT _ _ _, hs5.ok, ?_⟩)⟩
      refine ⟨_, rfl, _, rfl, _, rfl, rfl, have_told U hw hc hcl hy hs5.ok fun v wd its hv hil hacc => ?_⟩
      refine ⟨_, rfl, _, rfl, _, rfl, _, rfl, rfl, p, n, SP, rows, cs, y, v, rfl, U, hw, hc, hy, hs5.ok, .inl ⟨wd, its, hv, ?_⟩⟩
      rw [hacc]
      refine ⟨true, true, rfl, rfl, false, rfl, ?_⟩
      refine iff0 ⟨_, rfl, _, rfl, _, rfl, _, rfl, _, rfl, rfl, p, n, cs, v, wd, its, rfl, hs5, hp2, hp7, hn1, hn, hcl, fun x hx => spot_nine hw (hc.inn x hx), hv, hil, fun vs M6 hs6 hvl hvv => ⟨_, rfl, ?_⟩⟩
      refine for_ind (fun j ρ M' => M' = M6 ∧ ∃ y10, ρ = [some (.lst (dI ns)), some (.int (0 + (kk : Int))), some (.mu 0), some (.tup (rows.map tP)), some (dTab T.a_Sum T.a_Table p n rows), some d, some (.int p), some (.int n), some (dSum T.a_Sum p (tI y)), some v, y10, some (.lst (cs.map tI)), some (tI y)]) _ ?_ ?_ ⟨rfl, x10, rfl⟩
      · rintro j e ρ M' N3 he ⟨rfl, y10, rfl⟩ hN3
        have hv3 := hvv e (List.mem_of_getElem? he)
        have fin : ∀ b : Bool, D.bl (!eqD (.bl b) (.bl b)) = .bl false := fun b => by cases b <;> rfl
        rcases hv3 with hj | ⟨wd', its', hg⟩
        · refine ⟨_, rfl, _, rfl, _, rfl, _, rfl, rfl, p, n, SP, rows, cs, y, e, rfl, U, hw, hc, hy, hs6.ok, .inr ⟨hj, ?_⟩⟩
          refine ⟨_, rfl, _, rfl, _, rfl, _, rfl, _, rfl, rfl, p, n, SP, rows, cs, y, e, rfl, U, hw, hc, hy, .inr ⟨hj, ?_⟩⟩
          refine ⟨rfl, rfl, false, fin _, ?_⟩
          exact iff0 (hN3 _ _ ⟨rfl, _, rfl⟩)
        · refine ⟨_, rfl, _, rfl, _, rfl, _, rfl, rfl, p, n, SP, rows, cs, y, e, rfl, U, hw, hc, hy, hs6.ok, .inl ⟨wd', its', hg, ?_⟩⟩
          refine ⟨_, rfl, _, rfl, _, rfl, _, rfl, _, rfl, rfl, p, n, SP, rows, cs, y, e, rfl, U, hw, hc, hy, .inl ⟨wd', its', hg, ?_⟩⟩
          refine ⟨rfl, rfl, false, fin _, ?_⟩
          exact iff0 (hN3 _ _ ⟨rfl, _, rfl⟩)
      · rintro ρ M' ⟨rfl, y10, rfl⟩
        exact hN2 _ _ ⟨hs6, _, _, _, _, _, _, rfl⟩
    · rintro ρ M' ⟨hs5, x5, x8, x9, x10, x11, x12, rfl⟩
      obtain ⟨n5, s5, rfl, _, _⟩ := hs5
      exact ⟨[], _, rfl, rfl, rfl, hN _ _ ⟨rfl, _, _, _, _, _, _, _, _, _, _, _, _, clean_cons 0 _ _ (apartA_ints 0 ns)⟩⟩
  · rintro ρ M ⟨rfl, x1, x2, x3, x4, x5, x6, x7, x8, x9, x10, x11, x12, rfl⟩
    exact q
end
end K11
set_option Elab.async false
set_option linter.all false
set_option maxRecDepth 100000
set_option maxHeartbeats 4000000
namespace Pd
open PySem PySem.Spec PyProof.Rows L2
/-- what is known, tables left out -/
def noTbl (H : Hp) : Hp := fun b => match H b with | some (.tbl _) => none | x => x
theorem noTbl_eq {H : Hp} {b : Addr} {o : HO} (h : H b = some o) (n : ∀ ps, o ≠ .tbl ps) : noTbl H b = some o := by
  unfold noTbl
  rw [h]
  cases o <;> first | rfl | exact absurd rfl (n _)
theorem noTbl_low {H : Hp} {b : Addr} {o : HO} (h : noTbl H b = some o) : H b = some o ∧ ∀ ps, o ≠ .tbl ps := by
  unfold noTbl at h
  split at h
  · cases h
  · rename_i hx
    exact ⟨h, fun ps z => hx ps (by rw [h, z])⟩
/-- the script's list is data -/
theorem sp_script {K : PySem.W.Frag} {W : DC} {H : Hp} {a : Addr} {ns : List Int} {E : XK} (hS : SqL K H a (ns.map V.int)) (h : W [.lst (dI ns)] [] fun d _ => d = .bl true) : spD 1 W K [.ref a] H (fun v _ => v = .bl true) E := by
  have ri : ∀ ns : List Int, RpA K [] (noTbl H) (ns.map V.int) (dI ns) := fun ns => by
    induction ns with
    | nil => exact .nil
    | cons n ns ih => exact .cons (.int n) ih
  have hS2 : SqL K (noTbl H) a (ns.map V.int) := by
    rcases hS with (h | ⟨o, h⟩) | h
    · exact .inl (.inl (noTbl_eq h fun _ z => by cases z))
    · exact .inl (.inr ⟨o, noTbl_eq h fun _ z => by cases z⟩)
    · exact .inr h
  refine ⟨rfl, [], [], noTbl H, [.lst (dI ns)], fun d _ => d = .bl true, .cons (.lst hS2 (ri ns)) .nil, ⟨fun b o e => (noTbl_low e).1, rfl, List.nodup_nil, fun k a m e => by simp at e, fun b ps e => (noTbl_low e).2 ps rfl⟩, h, fun v d L' H' M' _ _ e r => ?_⟩
  subst e
  cases r
  rfl
end Pd
namespace K11
open PySem PySem.Spec PyProof.Rows L2 Pd
theorem gs_dict {K : PySem.W.Frag} {P : Program} {w : World} {d : Addr} {h1 h2 h3 h4 : Int} {t1 t2 t3 t4 u1 u2 u3 u4 : Tok} {n0 : Nat}
    (l : K.lookup d = some ⟨.type "dict", none, .dict #[⟨h1, .int 2 t1, .int 6 u1⟩, ⟨h2, .int 3 t2, .int 6 u2⟩, ⟨h3, .int 5 t3, .int 5 u3⟩, ⟨h4, .int 7 t4, .int 4 u4⟩] n0, #[]⟩)
    (e : h1 = hashInt 2 ∧ h2 = hashInt 3 ∧ h3 = hashInt 5 ∧ h4 = hashInt 7) (o : (d == sysModules) = false) : IntD K P w d gsz := by
  obtain ⟨rfl, rfl, rfl, rfl⟩ := e
  refine ⟨⟨_, _, l, fun x hx => ?_, fun k => ?_⟩, o⟩
  · simp only [List.mem_toArray, List.mem_cons, List.not_mem_nil, or_false] at hx
    rcases hx with rfl | rfl | rfl | rfl
    · exact ⟨2, rfl, rfl⟩
    · exact ⟨3, rfl, rfl⟩
    · exact ⟨5, rfl, rfl⟩
    · exact ⟨7, rfl, rfl⟩
  · unfold findBy gsz
    simp only [List.find?_toArray, List.find?_cons, List.find?_nil, Value.isInt]
    by_cases e2 : k = 2
    · subst e2; exact .inr ⟨6, u1, rfl, rfl⟩
    by_cases e3 : k = 3
    · subst e3; exact .inr ⟨6, u2, rfl, rfl⟩
    by_cases e5 : k = 5
    · subst e5; exact .inr ⟨5, u3, rfl, rfl⟩
    by_cases e7 : k = 7
    · subst e7; exact .inr ⟨4, u4, rfl, rfl⟩
    rw [if_neg e2, if_neg e3, if_neg e5, if_neg e7]
    have f : ∀ a : Int, k ≠ a → (a == k) = false := fun a h => by simpa using fun z => h z.symm
    rw [f 2 e2, f 3 e3, f 5 e5, f 7 e7]
    exact .inl ⟨rfl, rfl⟩
theorem all_mk {l : PySem.W.OpenLaw} {w : World} {K : PySem.W.Frag} {h : Heap} {mg : Str → Option Value} {fa : Addr} (X : K.In h) (G : h.Ns mainGlobals mg) (hfa : mg "law" = some (.ref fa))
    {a_Sum a_Space a_Table a_is_integer a_is_between a_has_items a_all_between a_is_ascending a_is_spot a_are_spots a_spots_of_parts a_is_prime a_is_size a_is_data a_expect_prime_and_size a_is_sum a_Sum_init a_Sum_prime q_Sum_prime a_Sum_factors q_Sum_factors a_Sum_size q_Sum_size a_Sum_call a_Sum_add a_Sum_mul a_Sum_eq a_minus a_remainder a_led_by_one a_reduced_rows a_zero_row a_zero_rows a_blind_for a_Space_init a_Space_prime q_Space_prime a_Space_size q_Space_size a_Space_reduced_sums q_Space_reduced_sums a_Space_is_whole q_Space_is_whole a_Space_blind_data a_expect_question a_combination_for a_is_combination a_given_sum a_is_blind a_have a_is_have a_expect_pieces a_Table_init a_Table_prime q_Table_prime a_Table_size q_Table_size a_Table_len a_Table_iter a_Table_getitem a_Table_space a_law_source a_law_draw a_law_pick a_law_value a_law_factors a_law_form a_law_pieces a_law_spots a_law_some a_law_shown a_law_is_pair a_law_accepts a_law_bent a_law a_GS dT_Space_init dE_Space_init dT_Table_space : Addr}
    {od_is_integer an_is_integer od_is_between an_is_between od_has_items an_has_items od_all_between an_all_between od_is_ascending an_is_ascending od_is_spot an_is_spot od_are_spots an_are_spots od_spots_of_parts an_spots_of_parts od_is_prime an_is_prime od_is_size an_is_size od_is_data an_is_data od_expect_prime_and_size an_expect_prime_and_size od_is_sum an_is_sum od_Sum_init an_Sum_init od_Sum_prime an_Sum_prime od_Sum_factors an_Sum_factors od_Sum_size an_Sum_size od_Sum_call an_Sum_call od_Sum_add an_Sum_add od_Sum_mul an_Sum_mul od_Sum_eq an_Sum_eq od_minus an_minus od_remainder an_remainder od_led_by_one an_led_by_one od_reduced_rows an_reduced_rows od_zero_row an_zero_row od_zero_rows an_zero_rows od_blind_for an_blind_for od_Space_init an_Space_init od_Space_prime an_Space_prime od_Space_size an_Space_size od_Space_reduced_sums an_Space_reduced_sums od_Space_is_whole an_Space_is_whole od_Space_blind_data an_Space_blind_data od_expect_question an_expect_question od_combination_for an_combination_for od_is_combination an_is_combination od_given_sum an_given_sum od_is_blind an_is_blind od_have an_have od_is_have an_is_have od_expect_pieces an_expect_pieces od_Table_init an_Table_init od_Table_prime an_Table_prime od_Table_size an_Table_size od_Table_len an_Table_len od_Table_iter an_Table_iter od_Table_getitem an_Table_getitem od_Table_space an_Table_space od_law_source an_law_source od_law_draw an_law_draw od_law_pick an_law_pick od_law_value an_law_value od_law_factors an_law_factors od_law_form an_law_form od_law_pieces an_law_pieces od_law_spots an_law_spots od_law_some an_law_some od_law_shown an_law_shown od_law_is_pair an_law_is_pair od_law_accepts an_law_accepts od_law_bent an_law_bent od_law an_law : Option Addr}
    {sl_is_integer sl_is_between sl_has_items sl_all_between sl_is_ascending sl_is_spot sl_are_spots sl_spots_of_parts sl_is_prime sl_is_size sl_is_data sl_expect_prime_and_size sl_is_sum sl_Sum_init sl_Sum_prime sl_Sum_factors sl_Sum_size sl_Sum_call sl_Sum_add sl_Sum_mul sl_Sum_eq sl_minus sl_remainder sl_led_by_one sl_reduced_rows sl_zero_row sl_zero_rows sl_blind_for sl_Space_init sl_Space_prime sl_Space_size sl_Space_reduced_sums sl_Space_is_whole sl_Space_blind_data sl_expect_question sl_combination_for sl_is_combination sl_given_sum sl_is_blind sl_have sl_is_have sl_expect_pieces sl_Table_init sl_Table_prime sl_Table_size sl_Table_len sl_Table_iter sl_Table_getitem sl_Table_space sl_law_source sl_law_draw sl_law_pick sl_law_value sl_law_factors sl_law_form sl_law_pieces sl_law_spots sl_law_some sl_law_shown sl_law_is_pair sl_law_accepts sl_law_bent sl_law : Array (Option Value)}
    {oc_is_integer kV_is_integer dc_is_integer pm_is_integer cd_is_integer ct_is_integer oc_is_between kV_is_between dc_is_between pm_is_between cd_is_between ct_is_between oc_has_items kV_has_items dc_has_items pm_has_items cd_has_items ct_has_items oc_all_between kV_all_between dc_all_between pm_all_between cd_all_between ct_all_between oc_is_ascending kV_is_ascending dc_is_ascending pm_is_ascending cd_is_ascending ct_is_ascending oc_is_spot kV_is_spot dc_is_spot pm_is_spot cd_is_spot ct_is_spot oc_are_spots kV_are_spots dc_are_spots pm_are_spots cd_are_spots ct_are_spots oc_spots_of_parts kV_spots_of_parts dc_spots_of_parts pm_spots_of_parts cd_spots_of_parts ct_spots_of_parts oc_is_prime kV_is_prime dc_is_prime pm_is_prime cd_is_prime ct_is_prime oc_is_size kV_is_size dc_is_size pm_is_size cd_is_size ct_is_size oc_is_data kV_is_data dc_is_data pm_is_data cd_is_data ct_is_data oc_expect_prime_and_size kV_expect_prime_and_size dc_expect_prime_and_size pm_expect_prime_and_size cd_expect_prime_and_size ct_expect_prime_and_size oc_is_sum kV_is_sum dc_is_sum pm_is_sum cd_is_sum ct_is_sum oc_Sum_init kV_Sum_init dc_Sum_init pm_Sum_init cd_Sum_init ct_Sum_init oc_Sum_prime kV_Sum_prime dc_Sum_prime pm_Sum_prime cd_Sum_prime ct_Sum_prime oc_Sum_factors kV_Sum_factors dc_Sum_factors pm_Sum_factors cd_Sum_factors ct_Sum_factors oc_Sum_size kV_Sum_size dc_Sum_size pm_Sum_size cd_Sum_size ct_Sum_size oc_Sum_call kV_Sum_call dc_Sum_call pm_Sum_call cd_Sum_call ct_Sum_call oc_Sum_add kV_Sum_add dc_Sum_add pm_Sum_add cd_Sum_add ct_Sum_add oc_Sum_mul kV_Sum_mul dc_Sum_mul pm_Sum_mul cd_Sum_mul ct_Sum_mul oc_Sum_eq kV_Sum_eq dc_Sum_eq pm_Sum_eq cd_Sum_eq ct_Sum_eq oc_minus kV_minus dc_minus pm_minus cd_minus ct_minus oc_remainder kV_remainder dc_remainder pm_remainder cd_remainder ct_remainder oc_led_by_one kV_led_by_one dc_led_by_one pm_led_by_one cd_led_by_one ct_led_by_one oc_reduced_rows kV_reduced_rows dc_reduced_rows pm_reduced_rows cd_reduced_rows ct_reduced_rows oc_zero_row kV_zero_row dc_zero_row pm_zero_row cd_zero_row ct_zero_row oc_zero_rows kV_zero_rows dc_zero_rows pm_zero_rows cd_zero_rows ct_zero_rows oc_blind_for kV_blind_for dc_blind_for pm_blind_for cd_blind_for ct_blind_for oc_Space_init kV_Space_init dc_Space_init pm_Space_init cd_Space_init ct_Space_init oc_Space_prime kV_Space_prime dc_Space_prime pm_Space_prime cd_Space_prime ct_Space_prime oc_Space_size kV_Space_size dc_Space_size pm_Space_size cd_Space_size ct_Space_size oc_Space_reduced_sums kV_Space_reduced_sums dc_Space_reduced_sums pm_Space_reduced_sums cd_Space_reduced_sums ct_Space_reduced_sums oc_Space_is_whole kV_Space_is_whole dc_Space_is_whole pm_Space_is_whole cd_Space_is_whole ct_Space_is_whole oc_Space_blind_data kV_Space_blind_data dc_Space_blind_data pm_Space_blind_data cd_Space_blind_data ct_Space_blind_data oc_expect_question kV_expect_question dc_expect_question pm_expect_question cd_expect_question ct_expect_question oc_combination_for kV_combination_for dc_combination_for pm_combination_for cd_combination_for ct_combination_for oc_is_combination kV_is_combination dc_is_combination pm_is_combination cd_is_combination ct_is_combination oc_given_sum kV_given_sum dc_given_sum pm_given_sum cd_given_sum ct_given_sum oc_is_blind kV_is_blind dc_is_blind pm_is_blind cd_is_blind ct_is_blind oc_have kV_have dc_have pm_have cd_have ct_have oc_is_have kV_is_have dc_is_have pm_is_have cd_is_have ct_is_have oc_expect_pieces kV_expect_pieces dc_expect_pieces pm_expect_pieces cd_expect_pieces ct_expect_pieces oc_Table_init kV_Table_init dc_Table_init pm_Table_init cd_Table_init ct_Table_init oc_Table_prime kV_Table_prime dc_Table_prime pm_Table_prime cd_Table_prime ct_Table_prime oc_Table_size kV_Table_size dc_Table_size pm_Table_size cd_Table_size ct_Table_size oc_Table_len kV_Table_len dc_Table_len pm_Table_len cd_Table_len ct_Table_len oc_Table_iter kV_Table_iter dc_Table_iter pm_Table_iter cd_Table_iter ct_Table_iter oc_Table_getitem kV_Table_getitem dc_Table_getitem pm_Table_getitem cd_Table_getitem ct_Table_getitem oc_Table_space kV_Table_space dc_Table_space pm_Table_space cd_Table_space ct_Table_space oc_law_source kV_law_source dc_law_source pm_law_source cd_law_source ct_law_source oc_law_draw kV_law_draw dc_law_draw pm_law_draw cd_law_draw ct_law_draw oc_law_pick kV_law_pick dc_law_pick pm_law_pick cd_law_pick ct_law_pick oc_law_value kV_law_value dc_law_value pm_law_value cd_law_value ct_law_value oc_law_factors kV_law_factors dc_law_factors pm_law_factors cd_law_factors ct_law_factors oc_law_form kV_law_form dc_law_form pm_law_form cd_law_form ct_law_form oc_law_pieces kV_law_pieces dc_law_pieces pm_law_pieces cd_law_pieces ct_law_pieces oc_law_spots kV_law_spots dc_law_spots pm_law_spots cd_law_spots ct_law_spots oc_law_some kV_law_some dc_law_some pm_law_some cd_law_some ct_law_some oc_law_shown kV_law_shown dc_law_shown pm_law_shown cd_law_shown ct_law_shown oc_law_is_pair kV_law_is_pair dc_law_is_pair pm_law_is_pair cd_law_is_pair ct_law_is_pair oc_law_accepts kV_law_accepts dc_law_accepts pm_law_accepts cd_law_accepts ct_law_accepts oc_law_bent kV_law_bent dc_law_bent pm_law_bent cd_law_bent ct_law_bent oc_law kV_law dc_law pm_law cd_law ct_law : Value}
    {pr_Sum_prime pr_Sum_factors pr_Sum_size pr_Space_prime pr_Space_size pr_Space_reduced_sums pr_Space_is_whole pr_Table_prime pr_Table_size : List Value}
    {h1 h2 h3 h4 : Int} {t1 t2 t3 t4 u1 u2 u3 u4 : Tok} {n0 : Nat} {dC_Space_init dC_Table_space : Value} {dD_Space_init dD_Table_space : Option Addr} {dN_Space_init dN_Table_space : Nat} {dS_Space_init dS_Table_space : Array (Option Value)}
    {t_MOST_PIECES : Tok}
    {t_MOST_PARTS : Tok}
    {t_MOST_PARTS_IN_ALL : Tok}
    (g_Sum : PySem.W.nsIn K mainGlobals "Sum" = some (some (.ref a_Sum)))
    (g_Space : PySem.W.nsIn K mainGlobals "Space" = some (some (.ref a_Space)))
    (g_Table : PySem.W.nsIn K mainGlobals "Table" = some (some (.ref a_Table)))
    (g_is_integer : PySem.W.nsIn K mainGlobals "is_integer" = some (some (.ref a_is_integer)))
    (i_is_integer : PySem.W.isFn K (.ref a_is_integer) = true)
    (l_is_integer : K.lookup a_is_integer = some ⟨oc_is_integer, od_is_integer, .func (PySem.W.fnOf "is_integer" "is_integer" (defArgs s_is_integer) (defBody s_is_integer) (defScope s_is_integer) .none kV_is_integer dc_is_integer pm_is_integer an_is_integer cd_is_integer ct_is_integer), sl_is_integer⟩)
    (c_is_integer : PySem.W.codeIn K cd_is_integer "is_integer" = true)
    (k_is_integer : PySem.W.keepIn K (.ref a_is_integer) = true)
    (g_is_between : PySem.W.nsIn K mainGlobals "is_between" = some (some (.ref a_is_between)))
    (i_is_between : PySem.W.isFn K (.ref a_is_between) = true)
    (l_is_between : K.lookup a_is_between = some ⟨oc_is_between, od_is_between, .func (PySem.W.fnOf "is_between" "is_between" (defArgs s_is_between) (defBody s_is_between) (defScope s_is_between) .none kV_is_between dc_is_between pm_is_between an_is_between cd_is_between ct_is_between), sl_is_between⟩)
    (c_is_between : PySem.W.codeIn K cd_is_between "is_between" = true)
    (k_is_between : PySem.W.keepIn K (.ref a_is_between) = true)
    (g_has_items : PySem.W.nsIn K mainGlobals "has_items" = some (some (.ref a_has_items)))
    (i_has_items : PySem.W.isFn K (.ref a_has_items) = true)
    (l_has_items : K.lookup a_has_items = some ⟨oc_has_items, od_has_items, .func (PySem.W.fnOf "has_items" "has_items" (defArgs s_has_items) (defBody s_has_items) (defScope s_has_items) .none kV_has_items dc_has_items pm_has_items an_has_items cd_has_items ct_has_items), sl_has_items⟩)
    (c_has_items : PySem.W.codeIn K cd_has_items "has_items" = true)
    (k_has_items : PySem.W.keepIn K (.ref a_has_items) = true)
    (g_all_between : PySem.W.nsIn K mainGlobals "all_between" = some (some (.ref a_all_between)))
    (i_all_between : PySem.W.isFn K (.ref a_all_between) = true)
    (l_all_between : K.lookup a_all_between = some ⟨oc_all_between, od_all_between, .func (PySem.W.fnOf "all_between" "all_between" (defArgs s_all_between) (defBody s_all_between) (defScope s_all_between) .none kV_all_between dc_all_between pm_all_between an_all_between cd_all_between ct_all_between), sl_all_between⟩)
    (c_all_between : PySem.W.codeIn K cd_all_between "all_between" = true)
    (k_all_between : PySem.W.keepIn K (.ref a_all_between) = true)
    (g_is_ascending : PySem.W.nsIn K mainGlobals "is_ascending" = some (some (.ref a_is_ascending)))
    (i_is_ascending : PySem.W.isFn K (.ref a_is_ascending) = true)
    (l_is_ascending : K.lookup a_is_ascending = some ⟨oc_is_ascending, od_is_ascending, .func (PySem.W.fnOf "is_ascending" "is_ascending" (defArgs s_is_ascending) (defBody s_is_ascending) (defScope s_is_ascending) .none kV_is_ascending dc_is_ascending pm_is_ascending an_is_ascending cd_is_ascending ct_is_ascending), sl_is_ascending⟩)
    (c_is_ascending : PySem.W.codeIn K cd_is_ascending "is_ascending" = true)
    (k_is_ascending : PySem.W.keepIn K (.ref a_is_ascending) = true)
    (g_is_spot : PySem.W.nsIn K mainGlobals "is_spot" = some (some (.ref a_is_spot)))
    (i_is_spot : PySem.W.isFn K (.ref a_is_spot) = true)
    (l_is_spot : K.lookup a_is_spot = some ⟨oc_is_spot, od_is_spot, .func (PySem.W.fnOf "is_spot" "is_spot" (defArgs s_is_spot) (defBody s_is_spot) (defScope s_is_spot) .none kV_is_spot dc_is_spot pm_is_spot an_is_spot cd_is_spot ct_is_spot), sl_is_spot⟩)
    (c_is_spot : PySem.W.codeIn K cd_is_spot "is_spot" = true)
    (k_is_spot : PySem.W.keepIn K (.ref a_is_spot) = true)
    (g_are_spots : PySem.W.nsIn K mainGlobals "are_spots" = some (some (.ref a_are_spots)))
    (i_are_spots : PySem.W.isFn K (.ref a_are_spots) = true)
    (l_are_spots : K.lookup a_are_spots = some ⟨oc_are_spots, od_are_spots, .func (PySem.W.fnOf "are_spots" "are_spots" (defArgs s_are_spots) (defBody s_are_spots) (defScope s_are_spots) .none kV_are_spots dc_are_spots pm_are_spots an_are_spots cd_are_spots ct_are_spots), sl_are_spots⟩)
    (c_are_spots : PySem.W.codeIn K cd_are_spots "are_spots" = true)
    (k_are_spots : PySem.W.keepIn K (.ref a_are_spots) = true)
    (g_spots_of_parts : PySem.W.nsIn K mainGlobals "spots_of_parts" = some (some (.ref a_spots_of_parts)))
    (i_spots_of_parts : PySem.W.isFn K (.ref a_spots_of_parts) = true)
    (l_spots_of_parts : K.lookup a_spots_of_parts = some ⟨oc_spots_of_parts, od_spots_of_parts, .func (PySem.W.fnOf "spots_of_parts" "spots_of_parts" (defArgs s_spots_of_parts) (defBody s_spots_of_parts) (defScope s_spots_of_parts) .none kV_spots_of_parts dc_spots_of_parts pm_spots_of_parts an_spots_of_parts cd_spots_of_parts ct_spots_of_parts), sl_spots_of_parts⟩)
    (c_spots_of_parts : PySem.W.codeIn K cd_spots_of_parts "spots_of_parts" = true)
    (k_spots_of_parts : PySem.W.keepIn K (.ref a_spots_of_parts) = true)
    (g_is_prime : PySem.W.nsIn K mainGlobals "is_prime" = some (some (.ref a_is_prime)))
    (i_is_prime : PySem.W.isFn K (.ref a_is_prime) = true)
    (l_is_prime : K.lookup a_is_prime = some ⟨oc_is_prime, od_is_prime, .func (PySem.W.fnOf "is_prime" "is_prime" (defArgs s_is_prime) (defBody s_is_prime) (defScope s_is_prime) .none kV_is_prime dc_is_prime pm_is_prime an_is_prime cd_is_prime ct_is_prime), sl_is_prime⟩)
    (c_is_prime : PySem.W.codeIn K cd_is_prime "is_prime" = true)
    (k_is_prime : PySem.W.keepIn K (.ref a_is_prime) = true)
    (g_is_size : PySem.W.nsIn K mainGlobals "is_size" = some (some (.ref a_is_size)))
    (i_is_size : PySem.W.isFn K (.ref a_is_size) = true)
    (l_is_size : K.lookup a_is_size = some ⟨oc_is_size, od_is_size, .func (PySem.W.fnOf "is_size" "is_size" (defArgs s_is_size) (defBody s_is_size) (defScope s_is_size) .none kV_is_size dc_is_size pm_is_size an_is_size cd_is_size ct_is_size), sl_is_size⟩)
    (c_is_size : PySem.W.codeIn K cd_is_size "is_size" = true)
    (k_is_size : PySem.W.keepIn K (.ref a_is_size) = true)
    (g_is_data : PySem.W.nsIn K mainGlobals "is_data" = some (some (.ref a_is_data)))
    (i_is_data : PySem.W.isFn K (.ref a_is_data) = true)
    (l_is_data : K.lookup a_is_data = some ⟨oc_is_data, od_is_data, .func (PySem.W.fnOf "is_data" "is_data" (defArgs s_is_data) (defBody s_is_data) (defScope s_is_data) .none kV_is_data dc_is_data pm_is_data an_is_data cd_is_data ct_is_data), sl_is_data⟩)
    (c_is_data : PySem.W.codeIn K cd_is_data "is_data" = true)
    (k_is_data : PySem.W.keepIn K (.ref a_is_data) = true)
    (g_expect_prime_and_size : PySem.W.nsIn K mainGlobals "expect_prime_and_size" = some (some (.ref a_expect_prime_and_size)))
    (i_expect_prime_and_size : PySem.W.isFn K (.ref a_expect_prime_and_size) = true)
    (l_expect_prime_and_size : K.lookup a_expect_prime_and_size = some ⟨oc_expect_prime_and_size, od_expect_prime_and_size, .func (PySem.W.fnOf "expect_prime_and_size" "expect_prime_and_size" (defArgs s_expect_prime_and_size) (defBody s_expect_prime_and_size) (defScope s_expect_prime_and_size) .none kV_expect_prime_and_size dc_expect_prime_and_size pm_expect_prime_and_size an_expect_prime_and_size cd_expect_prime_and_size ct_expect_prime_and_size), sl_expect_prime_and_size⟩)
    (c_expect_prime_and_size : PySem.W.codeIn K cd_expect_prime_and_size "expect_prime_and_size" = true)
    (k_expect_prime_and_size : PySem.W.keepIn K (.ref a_expect_prime_and_size) = true)
    (g_is_sum : PySem.W.nsIn K mainGlobals "is_sum" = some (some (.ref a_is_sum)))
    (i_is_sum : PySem.W.isFn K (.ref a_is_sum) = true)
    (l_is_sum : K.lookup a_is_sum = some ⟨oc_is_sum, od_is_sum, .func (PySem.W.fnOf "is_sum" "is_sum" (defArgs s_is_sum) (defBody s_is_sum) (defScope s_is_sum) .none kV_is_sum dc_is_sum pm_is_sum an_is_sum cd_is_sum ct_is_sum), sl_is_sum⟩)
    (c_is_sum : PySem.W.codeIn K cd_is_sum "is_sum" = true)
    (k_is_sum : PySem.W.keepIn K (.ref a_is_sum) = true)
    (f_Sum_init : PySem.W.findIn K (.ref a_Sum) "__init__" = some (some (.ref a_Sum_init)))
    (i_Sum_init : PySem.W.isFn K (.ref a_Sum_init) = true)
    (l_Sum_init : K.lookup a_Sum_init = some ⟨oc_Sum_init, od_Sum_init, .func (PySem.W.fnOf "__init__" "Sum.__init__" (defArgs s_Sum_init) (defBody s_Sum_init) (defScope s_Sum_init) .none kV_Sum_init dc_Sum_init pm_Sum_init an_Sum_init cd_Sum_init ct_Sum_init), sl_Sum_init⟩)
    (c_Sum_init : PySem.W.codeIn K cd_Sum_init "Sum.__init__" = true)
    (k_Sum_init : PySem.W.keepIn K (.ref a_Sum_init) = true)
    (pa_Sum_prime : PySem.W.findIn K (.ref a_Sum) "prime" = some (some (.ref q_Sum_prime)))
    (pg_Sum_prime : PySem.W.specialIn K (.ref q_Sum_prime) "__get__" = some (some (.builtin "property.__get__")))
    (pt_Sum_prime : PySem.W.takesIn K (.ref q_Sum_prime) = some true)
    (pc_Sum_prime : PySem.W.recIn K q_Sum_prime "property" = some (.ref a_Sum_prime :: pr_Sum_prime))
    (i_Sum_prime : PySem.W.isFn K (.ref a_Sum_prime) = true)
    (l_Sum_prime : K.lookup a_Sum_prime = some ⟨oc_Sum_prime, od_Sum_prime, .func (PySem.W.fnOf "prime" "Sum.prime" (defArgs s_Sum_prime) (defBody s_Sum_prime) (defScope s_Sum_prime) .none kV_Sum_prime dc_Sum_prime pm_Sum_prime an_Sum_prime cd_Sum_prime ct_Sum_prime), sl_Sum_prime⟩)
    (c_Sum_prime : PySem.W.codeIn K cd_Sum_prime "Sum.prime" = true)
    (k_Sum_prime : PySem.W.keepIn K (.ref a_Sum_prime) = true)
    (pa_Sum_factors : PySem.W.findIn K (.ref a_Sum) "factors" = some (some (.ref q_Sum_factors)))
    (pg_Sum_factors : PySem.W.specialIn K (.ref q_Sum_factors) "__get__" = some (some (.builtin "property.__get__")))
    (pt_Sum_factors : PySem.W.takesIn K (.ref q_Sum_factors) = some true)
    (pc_Sum_factors : PySem.W.recIn K q_Sum_factors "property" = some (.ref a_Sum_factors :: pr_Sum_factors))
    (i_Sum_factors : PySem.W.isFn K (.ref a_Sum_factors) = true)
    (l_Sum_factors : K.lookup a_Sum_factors = some ⟨oc_Sum_factors, od_Sum_factors, .func (PySem.W.fnOf "factors" "Sum.factors" (defArgs s_Sum_factors) (defBody s_Sum_factors) (defScope s_Sum_factors) .none kV_Sum_factors dc_Sum_factors pm_Sum_factors an_Sum_factors cd_Sum_factors ct_Sum_factors), sl_Sum_factors⟩)
    (c_Sum_factors : PySem.W.codeIn K cd_Sum_factors "Sum.factors" = true)
    (k_Sum_factors : PySem.W.keepIn K (.ref a_Sum_factors) = true)
    (pa_Sum_size : PySem.W.findIn K (.ref a_Sum) "size" = some (some (.ref q_Sum_size)))
    (pg_Sum_size : PySem.W.specialIn K (.ref q_Sum_size) "__get__" = some (some (.builtin "property.__get__")))
    (pt_Sum_size : PySem.W.takesIn K (.ref q_Sum_size) = some true)
    (pc_Sum_size : PySem.W.recIn K q_Sum_size "property" = some (.ref a_Sum_size :: pr_Sum_size))
    (i_Sum_size : PySem.W.isFn K (.ref a_Sum_size) = true)
    (l_Sum_size : K.lookup a_Sum_size = some ⟨oc_Sum_size, od_Sum_size, .func (PySem.W.fnOf "size" "Sum.size" (defArgs s_Sum_size) (defBody s_Sum_size) (defScope s_Sum_size) .none kV_Sum_size dc_Sum_size pm_Sum_size an_Sum_size cd_Sum_size ct_Sum_size), sl_Sum_size⟩)
    (c_Sum_size : PySem.W.codeIn K cd_Sum_size "Sum.size" = true)
    (k_Sum_size : PySem.W.keepIn K (.ref a_Sum_size) = true)
    (f_Sum_call : PySem.W.findIn K (.ref a_Sum) "__call__" = some (some (.ref a_Sum_call)))
    (i_Sum_call : PySem.W.isFn K (.ref a_Sum_call) = true)
    (l_Sum_call : K.lookup a_Sum_call = some ⟨oc_Sum_call, od_Sum_call, .func (PySem.W.fnOf "__call__" "Sum.__call__" (defArgs s_Sum_call) (defBody s_Sum_call) (defScope s_Sum_call) .none kV_Sum_call dc_Sum_call pm_Sum_call an_Sum_call cd_Sum_call ct_Sum_call), sl_Sum_call⟩)
    (c_Sum_call : PySem.W.codeIn K cd_Sum_call "Sum.__call__" = true)
    (k_Sum_call : PySem.W.keepIn K (.ref a_Sum_call) = true)
    (f_Sum_add : PySem.W.findIn K (.ref a_Sum) "__add__" = some (some (.ref a_Sum_add)))
    (i_Sum_add : PySem.W.isFn K (.ref a_Sum_add) = true)
    (l_Sum_add : K.lookup a_Sum_add = some ⟨oc_Sum_add, od_Sum_add, .func (PySem.W.fnOf "__add__" "Sum.__add__" (defArgs s_Sum_add) (defBody s_Sum_add) (defScope s_Sum_add) .none kV_Sum_add dc_Sum_add pm_Sum_add an_Sum_add cd_Sum_add ct_Sum_add), sl_Sum_add⟩)
    (c_Sum_add : PySem.W.codeIn K cd_Sum_add "Sum.__add__" = true)
    (k_Sum_add : PySem.W.keepIn K (.ref a_Sum_add) = true)
    (f_Sum_mul : PySem.W.findIn K (.ref a_Sum) "__mul__" = some (some (.ref a_Sum_mul)))
    (i_Sum_mul : PySem.W.isFn K (.ref a_Sum_mul) = true)
    (l_Sum_mul : K.lookup a_Sum_mul = some ⟨oc_Sum_mul, od_Sum_mul, .func (PySem.W.fnOf "__mul__" "Sum.__mul__" (defArgs s_Sum_mul) (defBody s_Sum_mul) (defScope s_Sum_mul) .none kV_Sum_mul dc_Sum_mul pm_Sum_mul an_Sum_mul cd_Sum_mul ct_Sum_mul), sl_Sum_mul⟩)
    (c_Sum_mul : PySem.W.codeIn K cd_Sum_mul "Sum.__mul__" = true)
    (k_Sum_mul : PySem.W.keepIn K (.ref a_Sum_mul) = true)
    (f_Sum_eq : PySem.W.findIn K (.ref a_Sum) "__eq__" = some (some (.ref a_Sum_eq)))
    (i_Sum_eq : PySem.W.isFn K (.ref a_Sum_eq) = true)
    (l_Sum_eq : K.lookup a_Sum_eq = some ⟨oc_Sum_eq, od_Sum_eq, .func (PySem.W.fnOf "__eq__" "Sum.__eq__" (defArgs s_Sum_eq) (defBody s_Sum_eq) (defScope s_Sum_eq) .none kV_Sum_eq dc_Sum_eq pm_Sum_eq an_Sum_eq cd_Sum_eq ct_Sum_eq), sl_Sum_eq⟩)
    (c_Sum_eq : PySem.W.codeIn K cd_Sum_eq "Sum.__eq__" = true)
    (k_Sum_eq : PySem.W.keepIn K (.ref a_Sum_eq) = true)
    (g_minus : PySem.W.nsIn K mainGlobals "minus" = some (some (.ref a_minus)))
    (i_minus : PySem.W.isFn K (.ref a_minus) = true)
    (l_minus : K.lookup a_minus = some ⟨oc_minus, od_minus, .func (PySem.W.fnOf "minus" "minus" (defArgs s_minus) (defBody s_minus) (defScope s_minus) .none kV_minus dc_minus pm_minus an_minus cd_minus ct_minus), sl_minus⟩)
    (c_minus : PySem.W.codeIn K cd_minus "minus" = true)
    (k_minus : PySem.W.keepIn K (.ref a_minus) = true)
    (g_remainder : PySem.W.nsIn K mainGlobals "remainder" = some (some (.ref a_remainder)))
    (i_remainder : PySem.W.isFn K (.ref a_remainder) = true)
    (l_remainder : K.lookup a_remainder = some ⟨oc_remainder, od_remainder, .func (PySem.W.fnOf "remainder" "remainder" (defArgs s_remainder) (defBody s_remainder) (defScope s_remainder) .none kV_remainder dc_remainder pm_remainder an_remainder cd_remainder ct_remainder), sl_remainder⟩)
    (c_remainder : PySem.W.codeIn K cd_remainder "remainder" = true)
    (k_remainder : PySem.W.keepIn K (.ref a_remainder) = true)
    (g_led_by_one : PySem.W.nsIn K mainGlobals "led_by_one" = some (some (.ref a_led_by_one)))
    (i_led_by_one : PySem.W.isFn K (.ref a_led_by_one) = true)
    (l_led_by_one : K.lookup a_led_by_one = some ⟨oc_led_by_one, od_led_by_one, .func (PySem.W.fnOf "led_by_one" "led_by_one" (defArgs s_led_by_one) (defBody s_led_by_one) (defScope s_led_by_one) .none kV_led_by_one dc_led_by_one pm_led_by_one an_led_by_one cd_led_by_one ct_led_by_one), sl_led_by_one⟩)
    (c_led_by_one : PySem.W.codeIn K cd_led_by_one "led_by_one" = true)
    (k_led_by_one : PySem.W.keepIn K (.ref a_led_by_one) = true)
    (g_reduced_rows : PySem.W.nsIn K mainGlobals "reduced_rows" = some (some (.ref a_reduced_rows)))
    (i_reduced_rows : PySem.W.isFn K (.ref a_reduced_rows) = true)
    (l_reduced_rows : K.lookup a_reduced_rows = some ⟨oc_reduced_rows, od_reduced_rows, .func (PySem.W.fnOf "reduced_rows" "reduced_rows" (defArgs s_reduced_rows) (defBody s_reduced_rows) (defScope s_reduced_rows) .none kV_reduced_rows dc_reduced_rows pm_reduced_rows an_reduced_rows cd_reduced_rows ct_reduced_rows), sl_reduced_rows⟩)
    (c_reduced_rows : PySem.W.codeIn K cd_reduced_rows "reduced_rows" = true)
    (k_reduced_rows : PySem.W.keepIn K (.ref a_reduced_rows) = true)
    (g_zero_row : PySem.W.nsIn K mainGlobals "zero_row" = some (some (.ref a_zero_row)))
    (i_zero_row : PySem.W.isFn K (.ref a_zero_row) = true)
    (l_zero_row : K.lookup a_zero_row = some ⟨oc_zero_row, od_zero_row, .func (PySem.W.fnOf "zero_row" "zero_row" (defArgs s_zero_row) (defBody s_zero_row) (defScope s_zero_row) .none kV_zero_row dc_zero_row pm_zero_row an_zero_row cd_zero_row ct_zero_row), sl_zero_row⟩)
    (c_zero_row : PySem.W.codeIn K cd_zero_row "zero_row" = true)
    (k_zero_row : PySem.W.keepIn K (.ref a_zero_row) = true)
    (g_zero_rows : PySem.W.nsIn K mainGlobals "zero_rows" = some (some (.ref a_zero_rows)))
    (i_zero_rows : PySem.W.isFn K (.ref a_zero_rows) = true)
    (l_zero_rows : K.lookup a_zero_rows = some ⟨oc_zero_rows, od_zero_rows, .func (PySem.W.fnOf "zero_rows" "zero_rows" (defArgs s_zero_rows) (defBody s_zero_rows) (defScope s_zero_rows) .none kV_zero_rows dc_zero_rows pm_zero_rows an_zero_rows cd_zero_rows ct_zero_rows), sl_zero_rows⟩)
    (c_zero_rows : PySem.W.codeIn K cd_zero_rows "zero_rows" = true)
    (k_zero_rows : PySem.W.keepIn K (.ref a_zero_rows) = true)
    (g_blind_for : PySem.W.nsIn K mainGlobals "blind_for" = some (some (.ref a_blind_for)))
    (i_blind_for : PySem.W.isFn K (.ref a_blind_for) = true)
    (l_blind_for : K.lookup a_blind_for = some ⟨oc_blind_for, od_blind_for, .func (PySem.W.fnOf "blind_for" "blind_for" (defArgs s_blind_for) (defBody s_blind_for) (defScope s_blind_for) .none kV_blind_for dc_blind_for pm_blind_for an_blind_for cd_blind_for ct_blind_for), sl_blind_for⟩)
    (c_blind_for : PySem.W.codeIn K cd_blind_for "blind_for" = true)
    (k_blind_for : PySem.W.keepIn K (.ref a_blind_for) = true)
    (f_Space_init : PySem.W.findIn K (.ref a_Space) "__init__" = some (some (.ref a_Space_init)))
    (i_Space_init : PySem.W.isFn K (.ref a_Space_init) = true)
    (l_Space_init : K.lookup a_Space_init = some ⟨oc_Space_init, od_Space_init, .func (PySem.W.fnOf "__init__" "Space.__init__" (defArgs s_Space_init) (defBody s_Space_init) (defScope s_Space_init) (.ref dT_Space_init) kV_Space_init dc_Space_init pm_Space_init an_Space_init cd_Space_init ct_Space_init), sl_Space_init⟩)
    (c_Space_init : PySem.W.codeIn K cd_Space_init "Space.__init__" = true)
    (k_Space_init : PySem.W.keepIn K (.ref a_Space_init) = true)
    (ld_Space_init : K.lookup dT_Space_init = some ⟨dC_Space_init, dD_Space_init, .seq #[.ref dE_Space_init] dN_Space_init, dS_Space_init⟩)
    (pa_Space_prime : PySem.W.findIn K (.ref a_Space) "prime" = some (some (.ref q_Space_prime)))
    (pg_Space_prime : PySem.W.specialIn K (.ref q_Space_prime) "__get__" = some (some (.builtin "property.__get__")))
    (pt_Space_prime : PySem.W.takesIn K (.ref q_Space_prime) = some true)
    (pc_Space_prime : PySem.W.recIn K q_Space_prime "property" = some (.ref a_Space_prime :: pr_Space_prime))
    (i_Space_prime : PySem.W.isFn K (.ref a_Space_prime) = true)
    (l_Space_prime : K.lookup a_Space_prime = some ⟨oc_Space_prime, od_Space_prime, .func (PySem.W.fnOf "prime" "Space.prime" (defArgs s_Space_prime) (defBody s_Space_prime) (defScope s_Space_prime) .none kV_Space_prime dc_Space_prime pm_Space_prime an_Space_prime cd_Space_prime ct_Space_prime), sl_Space_prime⟩)
    (c_Space_prime : PySem.W.codeIn K cd_Space_prime "Space.prime" = true)
    (k_Space_prime : PySem.W.keepIn K (.ref a_Space_prime) = true)
    (pa_Space_size : PySem.W.findIn K (.ref a_Space) "size" = some (some (.ref q_Space_size)))
    (pg_Space_size : PySem.W.specialIn K (.ref q_Space_size) "__get__" = some (some (.builtin "property.__get__")))
    (pt_Space_size : PySem.W.takesIn K (.ref q_Space_size) = some true)
    (pc_Space_size : PySem.W.recIn K q_Space_size "property" = some (.ref a_Space_size :: pr_Space_size))
    (i_Space_size : PySem.W.isFn K (.ref a_Space_size) = true)
    (l_Space_size : K.lookup a_Space_size = some ⟨oc_Space_size, od_Space_size, .func (PySem.W.fnOf "size" "Space.size" (defArgs s_Space_size) (defBody s_Space_size) (defScope s_Space_size) .none kV_Space_size dc_Space_size pm_Space_size an_Space_size cd_Space_size ct_Space_size), sl_Space_size⟩)
    (c_Space_size : PySem.W.codeIn K cd_Space_size "Space.size" = true)
    (k_Space_size : PySem.W.keepIn K (.ref a_Space_size) = true)
    (pa_Space_reduced_sums : PySem.W.findIn K (.ref a_Space) "reduced_sums" = some (some (.ref q_Space_reduced_sums)))
    (pg_Space_reduced_sums : PySem.W.specialIn K (.ref q_Space_reduced_sums) "__get__" = some (some (.builtin "property.__get__")))
    (pt_Space_reduced_sums : PySem.W.takesIn K (.ref q_Space_reduced_sums) = some true)
    (pc_Space_reduced_sums : PySem.W.recIn K q_Space_reduced_sums "property" = some (.ref a_Space_reduced_sums :: pr_Space_reduced_sums))
    (i_Space_reduced_sums : PySem.W.isFn K (.ref a_Space_reduced_sums) = true)
    (l_Space_reduced_sums : K.lookup a_Space_reduced_sums = some ⟨oc_Space_reduced_sums, od_Space_reduced_sums, .func (PySem.W.fnOf "reduced_sums" "Space.reduced_sums" (defArgs s_Space_reduced_sums) (defBody s_Space_reduced_sums) (defScope s_Space_reduced_sums) .none kV_Space_reduced_sums dc_Space_reduced_sums pm_Space_reduced_sums an_Space_reduced_sums cd_Space_reduced_sums ct_Space_reduced_sums), sl_Space_reduced_sums⟩)
    (c_Space_reduced_sums : PySem.W.codeIn K cd_Space_reduced_sums "Space.reduced_sums" = true)
    (k_Space_reduced_sums : PySem.W.keepIn K (.ref a_Space_reduced_sums) = true)
    (pa_Space_is_whole : PySem.W.findIn K (.ref a_Space) "is_whole" = some (some (.ref q_Space_is_whole)))
    (pg_Space_is_whole : PySem.W.specialIn K (.ref q_Space_is_whole) "__get__" = some (some (.builtin "property.__get__")))
    (pt_Space_is_whole : PySem.W.takesIn K (.ref q_Space_is_whole) = some true)
    (pc_Space_is_whole : PySem.W.recIn K q_Space_is_whole "property" = some (.ref a_Space_is_whole :: pr_Space_is_whole))
    (i_Space_is_whole : PySem.W.isFn K (.ref a_Space_is_whole) = true)
    (l_Space_is_whole : K.lookup a_Space_is_whole = some ⟨oc_Space_is_whole, od_Space_is_whole, .func (PySem.W.fnOf "is_whole" "Space.is_whole" (defArgs s_Space_is_whole) (defBody s_Space_is_whole) (defScope s_Space_is_whole) .none kV_Space_is_whole dc_Space_is_whole pm_Space_is_whole an_Space_is_whole cd_Space_is_whole ct_Space_is_whole), sl_Space_is_whole⟩)
    (c_Space_is_whole : PySem.W.codeIn K cd_Space_is_whole "Space.is_whole" = true)
    (k_Space_is_whole : PySem.W.keepIn K (.ref a_Space_is_whole) = true)
    (f_Space_blind_data : PySem.W.findIn K (.ref a_Space) "blind_data" = some (some (.ref a_Space_blind_data)))
    (i_Space_blind_data : PySem.W.isFn K (.ref a_Space_blind_data) = true)
    (l_Space_blind_data : K.lookup a_Space_blind_data = some ⟨oc_Space_blind_data, od_Space_blind_data, .func (PySem.W.fnOf "blind_data" "Space.blind_data" (defArgs s_Space_blind_data) (defBody s_Space_blind_data) (defScope s_Space_blind_data) .none kV_Space_blind_data dc_Space_blind_data pm_Space_blind_data an_Space_blind_data cd_Space_blind_data ct_Space_blind_data), sl_Space_blind_data⟩)
    (c_Space_blind_data : PySem.W.codeIn K cd_Space_blind_data "Space.blind_data" = true)
    (k_Space_blind_data : PySem.W.keepIn K (.ref a_Space_blind_data) = true)
    (g_expect_question : PySem.W.nsIn K mainGlobals "expect_question" = some (some (.ref a_expect_question)))
    (i_expect_question : PySem.W.isFn K (.ref a_expect_question) = true)
    (l_expect_question : K.lookup a_expect_question = some ⟨oc_expect_question, od_expect_question, .func (PySem.W.fnOf "expect_question" "expect_question" (defArgs s_expect_question) (defBody s_expect_question) (defScope s_expect_question) .none kV_expect_question dc_expect_question pm_expect_question an_expect_question cd_expect_question ct_expect_question), sl_expect_question⟩)
    (c_expect_question : PySem.W.codeIn K cd_expect_question "expect_question" = true)
    (k_expect_question : PySem.W.keepIn K (.ref a_expect_question) = true)
    (g_combination_for : PySem.W.nsIn K mainGlobals "combination_for" = some (some (.ref a_combination_for)))
    (i_combination_for : PySem.W.isFn K (.ref a_combination_for) = true)
    (l_combination_for : K.lookup a_combination_for = some ⟨oc_combination_for, od_combination_for, .func (PySem.W.fnOf "combination_for" "combination_for" (defArgs s_combination_for) (defBody s_combination_for) (defScope s_combination_for) .none kV_combination_for dc_combination_for pm_combination_for an_combination_for cd_combination_for ct_combination_for), sl_combination_for⟩)
    (c_combination_for : PySem.W.codeIn K cd_combination_for "combination_for" = true)
    (k_combination_for : PySem.W.keepIn K (.ref a_combination_for) = true)
    (g_is_combination : PySem.W.nsIn K mainGlobals "is_combination" = some (some (.ref a_is_combination)))
    (i_is_combination : PySem.W.isFn K (.ref a_is_combination) = true)
    (l_is_combination : K.lookup a_is_combination = some ⟨oc_is_combination, od_is_combination, .func (PySem.W.fnOf "is_combination" "is_combination" (defArgs s_is_combination) (defBody s_is_combination) (defScope s_is_combination) .none kV_is_combination dc_is_combination pm_is_combination an_is_combination cd_is_combination ct_is_combination), sl_is_combination⟩)
    (c_is_combination : PySem.W.codeIn K cd_is_combination "is_combination" = true)
    (k_is_combination : PySem.W.keepIn K (.ref a_is_combination) = true)
    (g_given_sum : PySem.W.nsIn K mainGlobals "given_sum" = some (some (.ref a_given_sum)))
    (i_given_sum : PySem.W.isFn K (.ref a_given_sum) = true)
    (l_given_sum : K.lookup a_given_sum = some ⟨oc_given_sum, od_given_sum, .func (PySem.W.fnOf "given_sum" "given_sum" (defArgs s_given_sum) (defBody s_given_sum) (defScope s_given_sum) .none kV_given_sum dc_given_sum pm_given_sum an_given_sum cd_given_sum ct_given_sum), sl_given_sum⟩)
    (c_given_sum : PySem.W.codeIn K cd_given_sum "given_sum" = true)
    (k_given_sum : PySem.W.keepIn K (.ref a_given_sum) = true)
    (g_is_blind : PySem.W.nsIn K mainGlobals "is_blind" = some (some (.ref a_is_blind)))
    (i_is_blind : PySem.W.isFn K (.ref a_is_blind) = true)
    (l_is_blind : K.lookup a_is_blind = some ⟨oc_is_blind, od_is_blind, .func (PySem.W.fnOf "is_blind" "is_blind" (defArgs s_is_blind) (defBody s_is_blind) (defScope s_is_blind) .none kV_is_blind dc_is_blind pm_is_blind an_is_blind cd_is_blind ct_is_blind), sl_is_blind⟩)
    (c_is_blind : PySem.W.codeIn K cd_is_blind "is_blind" = true)
    (k_is_blind : PySem.W.keepIn K (.ref a_is_blind) = true)
    (g_have : PySem.W.nsIn K mainGlobals "have" = some (some (.ref a_have)))
    (i_have : PySem.W.isFn K (.ref a_have) = true)
    (l_have : K.lookup a_have = some ⟨oc_have, od_have, .func (PySem.W.fnOf "have" "have" (defArgs s_have) (defBody s_have) (defScope s_have) .none kV_have dc_have pm_have an_have cd_have ct_have), sl_have⟩)
    (c_have : PySem.W.codeIn K cd_have "have" = true)
    (k_have : PySem.W.keepIn K (.ref a_have) = true)
    (g_is_have : PySem.W.nsIn K mainGlobals "is_have" = some (some (.ref a_is_have)))
    (i_is_have : PySem.W.isFn K (.ref a_is_have) = true)
    (l_is_have : K.lookup a_is_have = some ⟨oc_is_have, od_is_have, .func (PySem.W.fnOf "is_have" "is_have" (defArgs s_is_have) (defBody s_is_have) (defScope s_is_have) .none kV_is_have dc_is_have pm_is_have an_is_have cd_is_have ct_is_have), sl_is_have⟩)
    (c_is_have : PySem.W.codeIn K cd_is_have "is_have" = true)
    (k_is_have : PySem.W.keepIn K (.ref a_is_have) = true)
    (g_expect_pieces : PySem.W.nsIn K mainGlobals "expect_pieces" = some (some (.ref a_expect_pieces)))
    (i_expect_pieces : PySem.W.isFn K (.ref a_expect_pieces) = true)
    (l_expect_pieces : K.lookup a_expect_pieces = some ⟨oc_expect_pieces, od_expect_pieces, .func (PySem.W.fnOf "expect_pieces" "expect_pieces" (defArgs s_expect_pieces) (defBody s_expect_pieces) (defScope s_expect_pieces) .none kV_expect_pieces dc_expect_pieces pm_expect_pieces an_expect_pieces cd_expect_pieces ct_expect_pieces), sl_expect_pieces⟩)
    (c_expect_pieces : PySem.W.codeIn K cd_expect_pieces "expect_pieces" = true)
    (k_expect_pieces : PySem.W.keepIn K (.ref a_expect_pieces) = true)
    (f_Table_init : PySem.W.findIn K (.ref a_Table) "__init__" = some (some (.ref a_Table_init)))
    (i_Table_init : PySem.W.isFn K (.ref a_Table_init) = true)
    (l_Table_init : K.lookup a_Table_init = some ⟨oc_Table_init, od_Table_init, .func (PySem.W.fnOf "__init__" "Table.__init__" (defArgs s_Table_init) (defBody s_Table_init) (defScope s_Table_init) .none kV_Table_init dc_Table_init pm_Table_init an_Table_init cd_Table_init ct_Table_init), sl_Table_init⟩)
    (c_Table_init : PySem.W.codeIn K cd_Table_init "Table.__init__" = true)
    (k_Table_init : PySem.W.keepIn K (.ref a_Table_init) = true)
    (pa_Table_prime : PySem.W.findIn K (.ref a_Table) "prime" = some (some (.ref q_Table_prime)))
    (pg_Table_prime : PySem.W.specialIn K (.ref q_Table_prime) "__get__" = some (some (.builtin "property.__get__")))
    (pt_Table_prime : PySem.W.takesIn K (.ref q_Table_prime) = some true)
    (pc_Table_prime : PySem.W.recIn K q_Table_prime "property" = some (.ref a_Table_prime :: pr_Table_prime))
    (i_Table_prime : PySem.W.isFn K (.ref a_Table_prime) = true)
    (l_Table_prime : K.lookup a_Table_prime = some ⟨oc_Table_prime, od_Table_prime, .func (PySem.W.fnOf "prime" "Table.prime" (defArgs s_Table_prime) (defBody s_Table_prime) (defScope s_Table_prime) .none kV_Table_prime dc_Table_prime pm_Table_prime an_Table_prime cd_Table_prime ct_Table_prime), sl_Table_prime⟩)
    (c_Table_prime : PySem.W.codeIn K cd_Table_prime "Table.prime" = true)
    (k_Table_prime : PySem.W.keepIn K (.ref a_Table_prime) = true)
    (pa_Table_size : PySem.W.findIn K (.ref a_Table) "size" = some (some (.ref q_Table_size)))
    (pg_Table_size : PySem.W.specialIn K (.ref q_Table_size) "__get__" = some (some (.builtin "property.__get__")))
    (pt_Table_size : PySem.W.takesIn K (.ref q_Table_size) = some true)
    (pc_Table_size : PySem.W.recIn K q_Table_size "property" = some (.ref a_Table_size :: pr_Table_size))
    (i_Table_size : PySem.W.isFn K (.ref a_Table_size) = true)
    (l_Table_size : K.lookup a_Table_size = some ⟨oc_Table_size, od_Table_size, .func (PySem.W.fnOf "size" "Table.size" (defArgs s_Table_size) (defBody s_Table_size) (defScope s_Table_size) .none kV_Table_size dc_Table_size pm_Table_size an_Table_size cd_Table_size ct_Table_size), sl_Table_size⟩)
    (c_Table_size : PySem.W.codeIn K cd_Table_size "Table.size" = true)
    (k_Table_size : PySem.W.keepIn K (.ref a_Table_size) = true)
    (f_Table_len : PySem.W.findIn K (.ref a_Table) "__len__" = some (some (.ref a_Table_len)))
    (i_Table_len : PySem.W.isFn K (.ref a_Table_len) = true)
    (l_Table_len : K.lookup a_Table_len = some ⟨oc_Table_len, od_Table_len, .func (PySem.W.fnOf "__len__" "Table.__len__" (defArgs s_Table_len) (defBody s_Table_len) (defScope s_Table_len) .none kV_Table_len dc_Table_len pm_Table_len an_Table_len cd_Table_len ct_Table_len), sl_Table_len⟩)
    (c_Table_len : PySem.W.codeIn K cd_Table_len "Table.__len__" = true)
    (k_Table_len : PySem.W.keepIn K (.ref a_Table_len) = true)
    (f_Table_iter : PySem.W.findIn K (.ref a_Table) "__iter__" = some (some (.ref a_Table_iter)))
    (i_Table_iter : PySem.W.isFn K (.ref a_Table_iter) = true)
    (l_Table_iter : K.lookup a_Table_iter = some ⟨oc_Table_iter, od_Table_iter, .func (PySem.W.fnOf "__iter__" "Table.__iter__" (defArgs s_Table_iter) (defBody s_Table_iter) (defScope s_Table_iter) .none kV_Table_iter dc_Table_iter pm_Table_iter an_Table_iter cd_Table_iter ct_Table_iter), sl_Table_iter⟩)
    (c_Table_iter : PySem.W.codeIn K cd_Table_iter "Table.__iter__" = true)
    (k_Table_iter : PySem.W.keepIn K (.ref a_Table_iter) = true)
    (f_Table_getitem : PySem.W.findIn K (.ref a_Table) "__getitem__" = some (some (.ref a_Table_getitem)))
    (i_Table_getitem : PySem.W.isFn K (.ref a_Table_getitem) = true)
    (l_Table_getitem : K.lookup a_Table_getitem = some ⟨oc_Table_getitem, od_Table_getitem, .func (PySem.W.fnOf "__getitem__" "Table.__getitem__" (defArgs s_Table_getitem) (defBody s_Table_getitem) (defScope s_Table_getitem) .none kV_Table_getitem dc_Table_getitem pm_Table_getitem an_Table_getitem cd_Table_getitem ct_Table_getitem), sl_Table_getitem⟩)
    (c_Table_getitem : PySem.W.codeIn K cd_Table_getitem "Table.__getitem__" = true)
    (k_Table_getitem : PySem.W.keepIn K (.ref a_Table_getitem) = true)
    (f_Table_space : PySem.W.findIn K (.ref a_Table) "space" = some (some (.ref a_Table_space)))
    (i_Table_space : PySem.W.isFn K (.ref a_Table_space) = true)
    (l_Table_space : K.lookup a_Table_space = some ⟨oc_Table_space, od_Table_space, .func (PySem.W.fnOf "space" "Table.space" (defArgs s_Table_space) (defBody s_Table_space) (defScope s_Table_space) (.ref dT_Table_space) kV_Table_space dc_Table_space pm_Table_space an_Table_space cd_Table_space ct_Table_space), sl_Table_space⟩)
    (c_Table_space : PySem.W.codeIn K cd_Table_space "Table.space" = true)
    (k_Table_space : PySem.W.keepIn K (.ref a_Table_space) = true)
    (ld_Table_space : K.lookup dT_Table_space = some ⟨dC_Table_space, dD_Table_space, .seq #[.none] dN_Table_space, dS_Table_space⟩)
    (g_law_source : PySem.W.nsIn K mainGlobals "_law_source" = some (some (.ref a_law_source)))
    (i_law_source : PySem.W.isFn K (.ref a_law_source) = true)
    (l_law_source : K.lookup a_law_source = some ⟨oc_law_source, od_law_source, .func (PySem.W.fnOf "_law_source" "_law_source" (defArgs s_law_source) (defBody s_law_source) (defScope s_law_source) .none kV_law_source dc_law_source pm_law_source an_law_source cd_law_source ct_law_source), sl_law_source⟩)
    (c_law_source : PySem.W.codeIn K cd_law_source "_law_source" = true)
    (k_law_source : PySem.W.keepIn K (.ref a_law_source) = true)
    (g_law_draw : PySem.W.nsIn K mainGlobals "_law_draw" = some (some (.ref a_law_draw)))
    (i_law_draw : PySem.W.isFn K (.ref a_law_draw) = true)
    (l_law_draw : K.lookup a_law_draw = some ⟨oc_law_draw, od_law_draw, .func (PySem.W.fnOf "_law_draw" "_law_draw" (defArgs s_law_draw) (defBody s_law_draw) (defScope s_law_draw) .none kV_law_draw dc_law_draw pm_law_draw an_law_draw cd_law_draw ct_law_draw), sl_law_draw⟩)
    (c_law_draw : PySem.W.codeIn K cd_law_draw "_law_draw" = true)
    (k_law_draw : PySem.W.keepIn K (.ref a_law_draw) = true)
    (g_law_pick : PySem.W.nsIn K mainGlobals "_law_pick" = some (some (.ref a_law_pick)))
    (i_law_pick : PySem.W.isFn K (.ref a_law_pick) = true)
    (l_law_pick : K.lookup a_law_pick = some ⟨oc_law_pick, od_law_pick, .func (PySem.W.fnOf "_law_pick" "_law_pick" (defArgs s_law_pick) (defBody s_law_pick) (defScope s_law_pick) .none kV_law_pick dc_law_pick pm_law_pick an_law_pick cd_law_pick ct_law_pick), sl_law_pick⟩)
    (c_law_pick : PySem.W.codeIn K cd_law_pick "_law_pick" = true)
    (k_law_pick : PySem.W.keepIn K (.ref a_law_pick) = true)
    (g_law_value : PySem.W.nsIn K mainGlobals "_law_value" = some (some (.ref a_law_value)))
    (i_law_value : PySem.W.isFn K (.ref a_law_value) = true)
    (l_law_value : K.lookup a_law_value = some ⟨oc_law_value, od_law_value, .func (PySem.W.fnOf "_law_value" "_law_value" (defArgs s_law_value) (defBody s_law_value) (defScope s_law_value) .none kV_law_value dc_law_value pm_law_value an_law_value cd_law_value ct_law_value), sl_law_value⟩)
    (c_law_value : PySem.W.codeIn K cd_law_value "_law_value" = true)
    (k_law_value : PySem.W.keepIn K (.ref a_law_value) = true)
    (g_law_factors : PySem.W.nsIn K mainGlobals "_law_factors" = some (some (.ref a_law_factors)))
    (i_law_factors : PySem.W.isFn K (.ref a_law_factors) = true)
    (l_law_factors : K.lookup a_law_factors = some ⟨oc_law_factors, od_law_factors, .func (PySem.W.fnOf "_law_factors" "_law_factors" (defArgs s_law_factors) (defBody s_law_factors) (defScope s_law_factors) .none kV_law_factors dc_law_factors pm_law_factors an_law_factors cd_law_factors ct_law_factors), sl_law_factors⟩)
    (c_law_factors : PySem.W.codeIn K cd_law_factors "_law_factors" = true)
    (k_law_factors : PySem.W.keepIn K (.ref a_law_factors) = true)
    (g_law_form : PySem.W.nsIn K mainGlobals "_law_form" = some (some (.ref a_law_form)))
    (i_law_form : PySem.W.isFn K (.ref a_law_form) = true)
    (l_law_form : K.lookup a_law_form = some ⟨oc_law_form, od_law_form, .func (PySem.W.fnOf "_law_form" "_law_form" (defArgs s_law_form) (defBody s_law_form) (defScope s_law_form) .none kV_law_form dc_law_form pm_law_form an_law_form cd_law_form ct_law_form), sl_law_form⟩)
    (c_law_form : PySem.W.codeIn K cd_law_form "_law_form" = true)
    (k_law_form : PySem.W.keepIn K (.ref a_law_form) = true)
    (g_law_pieces : PySem.W.nsIn K mainGlobals "_law_pieces" = some (some (.ref a_law_pieces)))
    (i_law_pieces : PySem.W.isFn K (.ref a_law_pieces) = true)
    (l_law_pieces : K.lookup a_law_pieces = some ⟨oc_law_pieces, od_law_pieces, .func (PySem.W.fnOf "_law_pieces" "_law_pieces" (defArgs s_law_pieces) (defBody s_law_pieces) (defScope s_law_pieces) .none kV_law_pieces dc_law_pieces pm_law_pieces an_law_pieces cd_law_pieces ct_law_pieces), sl_law_pieces⟩)
    (c_law_pieces : PySem.W.codeIn K cd_law_pieces "_law_pieces" = true)
    (k_law_pieces : PySem.W.keepIn K (.ref a_law_pieces) = true)
    (g_law_spots : PySem.W.nsIn K mainGlobals "_law_spots" = some (some (.ref a_law_spots)))
    (i_law_spots : PySem.W.isFn K (.ref a_law_spots) = true)
    (l_law_spots : K.lookup a_law_spots = some ⟨oc_law_spots, od_law_spots, .func (PySem.W.fnOf "_law_spots" "_law_spots" (defArgs s_law_spots) (defBody s_law_spots) (defScope s_law_spots) .none kV_law_spots dc_law_spots pm_law_spots an_law_spots cd_law_spots ct_law_spots), sl_law_spots⟩)
    (c_law_spots : PySem.W.codeIn K cd_law_spots "_law_spots" = true)
    (k_law_spots : PySem.W.keepIn K (.ref a_law_spots) = true)
    (g_law_some : PySem.W.nsIn K mainGlobals "_law_some" = some (some (.ref a_law_some)))
    (i_law_some : PySem.W.isFn K (.ref a_law_some) = true)
    (l_law_some : K.lookup a_law_some = some ⟨oc_law_some, od_law_some, .func (PySem.W.fnOf "_law_some" "_law_some" (defArgs s_law_some) (defBody s_law_some) (defScope s_law_some) .none kV_law_some dc_law_some pm_law_some an_law_some cd_law_some ct_law_some), sl_law_some⟩)
    (c_law_some : PySem.W.codeIn K cd_law_some "_law_some" = true)
    (k_law_some : PySem.W.keepIn K (.ref a_law_some) = true)
    (g_law_shown : PySem.W.nsIn K mainGlobals "_law_shown" = some (some (.ref a_law_shown)))
    (i_law_shown : PySem.W.isFn K (.ref a_law_shown) = true)
    (l_law_shown : K.lookup a_law_shown = some ⟨oc_law_shown, od_law_shown, .func (PySem.W.fnOf "_law_shown" "_law_shown" (defArgs s_law_shown) (defBody s_law_shown) (defScope s_law_shown) .none kV_law_shown dc_law_shown pm_law_shown an_law_shown cd_law_shown ct_law_shown), sl_law_shown⟩)
    (c_law_shown : PySem.W.codeIn K cd_law_shown "_law_shown" = true)
    (k_law_shown : PySem.W.keepIn K (.ref a_law_shown) = true)
    (g_law_is_pair : PySem.W.nsIn K mainGlobals "_law_is_pair" = some (some (.ref a_law_is_pair)))
    (i_law_is_pair : PySem.W.isFn K (.ref a_law_is_pair) = true)
    (l_law_is_pair : K.lookup a_law_is_pair = some ⟨oc_law_is_pair, od_law_is_pair, .func (PySem.W.fnOf "_law_is_pair" "_law_is_pair" (defArgs s_law_is_pair) (defBody s_law_is_pair) (defScope s_law_is_pair) .none kV_law_is_pair dc_law_is_pair pm_law_is_pair an_law_is_pair cd_law_is_pair ct_law_is_pair), sl_law_is_pair⟩)
    (c_law_is_pair : PySem.W.codeIn K cd_law_is_pair "_law_is_pair" = true)
    (k_law_is_pair : PySem.W.keepIn K (.ref a_law_is_pair) = true)
    (g_law_accepts : PySem.W.nsIn K mainGlobals "_law_accepts" = some (some (.ref a_law_accepts)))
    (i_law_accepts : PySem.W.isFn K (.ref a_law_accepts) = true)
    (l_law_accepts : K.lookup a_law_accepts = some ⟨oc_law_accepts, od_law_accepts, .func (PySem.W.fnOf "_law_accepts" "_law_accepts" (defArgs s_law_accepts) (defBody s_law_accepts) (defScope s_law_accepts) .none kV_law_accepts dc_law_accepts pm_law_accepts an_law_accepts cd_law_accepts ct_law_accepts), sl_law_accepts⟩)
    (c_law_accepts : PySem.W.codeIn K cd_law_accepts "_law_accepts" = true)
    (k_law_accepts : PySem.W.keepIn K (.ref a_law_accepts) = true)
    (g_law_bent : PySem.W.nsIn K mainGlobals "_law_bent" = some (some (.ref a_law_bent)))
    (i_law_bent : PySem.W.isFn K (.ref a_law_bent) = true)
    (l_law_bent : K.lookup a_law_bent = some ⟨oc_law_bent, od_law_bent, .func (PySem.W.fnOf "_law_bent" "_law_bent" (defArgs s_law_bent) (defBody s_law_bent) (defScope s_law_bent) .none kV_law_bent dc_law_bent pm_law_bent an_law_bent cd_law_bent ct_law_bent), sl_law_bent⟩)
    (c_law_bent : PySem.W.codeIn K cd_law_bent "_law_bent" = true)
    (k_law_bent : PySem.W.keepIn K (.ref a_law_bent) = true)
    (g_law : PySem.W.nsIn K mainGlobals "law" = some (some (.ref a_law)))
    (i_law : PySem.W.isFn K (.ref a_law) = true)
    (l_law : K.lookup a_law = some ⟨oc_law, od_law, .func (PySem.W.fnOf "law" "law" (defArgs s_law) (defBody s_law) (defScope s_law) .none kV_law dc_law pm_law an_law cd_law ct_law), sl_law⟩)
    (c_law : PySem.W.codeIn K cd_law "law" = true)
    (k_law : PySem.W.keepIn K (.ref a_law) = true)
    (n_isinstance : PySem.W.nsIn K mainGlobals "isinstance" = some none)
    (n_int : PySem.W.nsIn K mainGlobals "int" = some none)
    (n_repr : PySem.W.nsIn K mainGlobals "repr" = some none)
    (n_str : PySem.W.nsIn K mainGlobals "str" = some none)
    (n_bool : PySem.W.nsIn K mainGlobals "bool" = some none)
    (n_list : PySem.W.nsIn K mainGlobals "list" = some none)
    (n_tuple : PySem.W.nsIn K mainGlobals "tuple" = some none)
    (n_len : PySem.W.nsIn K mainGlobals "len" = some none)
    (n_all : PySem.W.nsIn K mainGlobals "all" = some none)
    (n_any : PySem.W.nsIn K mainGlobals "any" = some none)
    (n_sum : PySem.W.nsIn K mainGlobals "sum" = some none)
    (n_zip : PySem.W.nsIn K mainGlobals "zip" = some none)
    (n_max : PySem.W.nsIn K mainGlobals "max" = some none)
    (n_min : PySem.W.nsIn K mainGlobals "min" = some none)
    (n_range : PySem.W.nsIn K mainGlobals "range" = some none)
    (n_sorted : PySem.W.nsIn K mainGlobals "sorted" = some none)
    (n_enumerate : PySem.W.nsIn K mainGlobals "enumerate" = some none)
    (n_reversed : PySem.W.nsIn K mainGlobals "reversed" = some none)
    (n_iter : PySem.W.nsIn K mainGlobals "iter" = some none)
    (n_set : PySem.W.nsIn K mainGlobals "set" = some none)
    (pgSum : PySem.W.plainGet K a_Sum Str.empty = true)
    (hdSum : PySem.W.hasDictIn K a_Sum = true)
    (poSum : PySem.W.plainOver K a_Sum = true)
    (saSum : PySem.W.findIn K (.ref a_Sum) "__setattr__" = some (some (.builtin "object.__setattr__")))
    (mkSum : PySem.W.makesIn K a_Sum = true)
    (kpSum : PySem.W.keepIn K (.ref a_Sum) = true)
    (clSum : PySem.W.findIn K (.ref a_Sum) "__class__" = some (some (.builtin "object.__class__")))
    (gtSum : PySem.W.specialIn K (.builtin "object.__class__") "__get__" = some (some (.builtin "getset_descriptor.__get__")))
    (tkSum : PySem.W.takesIn K (.builtin "object.__class__") = some true)
    (moSum : PySem.W.mroIn K a_Sum (.type "object") = some true)
    (na_Sum_prime : PySem.W.findIn K (.ref a_Sum) "_prime" = some none)
    (na_Sum_factors : PySem.W.findIn K (.ref a_Sum) "_factors" = some none)
    (pgSpace : PySem.W.plainGet K a_Space Str.empty = true)
    (hdSpace : PySem.W.hasDictIn K a_Space = true)
    (poSpace : PySem.W.plainOver K a_Space = true)
    (saSpace : PySem.W.findIn K (.ref a_Space) "__setattr__" = some (some (.builtin "object.__setattr__")))
    (mkSpace : PySem.W.makesIn K a_Space = true)
    (kpSpace : PySem.W.keepIn K (.ref a_Space) = true)
    (clSpace : PySem.W.findIn K (.ref a_Space) "__class__" = some (some (.builtin "object.__class__")))
    (gtSpace : PySem.W.specialIn K (.builtin "object.__class__") "__get__" = some (some (.builtin "getset_descriptor.__get__")))
    (tkSpace : PySem.W.takesIn K (.builtin "object.__class__") = some true)
    (moSpace : PySem.W.mroIn K a_Space (.type "object") = some true)
    (na_Space_prime : PySem.W.findIn K (.ref a_Space) "_prime" = some none)
    (na_Space_size : PySem.W.findIn K (.ref a_Space) "_size" = some none)
    (na_Space_rows : PySem.W.findIn K (.ref a_Space) "_rows" = some none)
    (na_Space_reduced : PySem.W.findIn K (.ref a_Space) "_reduced" = some none)
    (pgTable : PySem.W.plainGet K a_Table Str.empty = true)
    (hdTable : PySem.W.hasDictIn K a_Table = true)
    (poTable : PySem.W.plainOver K a_Table = true)
    (saTable : PySem.W.findIn K (.ref a_Table) "__setattr__" = some (some (.builtin "object.__setattr__")))
    (mkTable : PySem.W.makesIn K a_Table = true)
    (kpTable : PySem.W.keepIn K (.ref a_Table) = true)
    (clTable : PySem.W.findIn K (.ref a_Table) "__class__" = some (some (.builtin "object.__class__")))
    (gtTable : PySem.W.specialIn K (.builtin "object.__class__") "__get__" = some (some (.builtin "getset_descriptor.__get__")))
    (tkTable : PySem.W.takesIn K (.builtin "object.__class__") = some true)
    (moTable : PySem.W.mroIn K a_Table (.type "object") = some true)
    (na_Table_prime : PySem.W.findIn K (.ref a_Table) "_prime" = some none)
    (na_Table_size : PySem.W.findIn K (.ref a_Table) "_size" = some none)
    (na_Table_pieces : PySem.W.findIn K (.ref a_Table) "_pieces" = some none)
    (na_Table_spots : PySem.W.findIn K (.ref a_Table) "_spots" = some none)
    (na_Table_sums : PySem.W.findIn K (.ref a_Table) "_sums" = some none)
    (na_Table_whole : PySem.W.findIn K (.ref a_Table) "_whole" = some none)
    (gc_MOST_PIECES : PySem.W.nsIn K mainGlobals "MOST_PIECES" = some (some (.int 6 t_MOST_PIECES)))
    (gc_MOST_PARTS : PySem.W.nsIn K mainGlobals "MOST_PARTS" = some (some (.int 3 t_MOST_PARTS)))
    (gc_MOST_PARTS_IN_ALL : PySem.W.nsIn K mainGlobals "MOST_PARTS_IN_ALL" = some (some (.int 10 t_MOST_PARTS_IN_ALL)))
    (nsC : PySem.W.notFirst K a_Sum (.ref a_Sum) = true)
    (ksC : PySem.W.kitOne K (.ref a_Sum) (.ref a_Sum) = some true)
    (gG : PySem.W.nsIn K mainGlobals "GREATEST_SIZES" = some (some (.ref a_GS)))
    (lG : K.lookup a_GS = some ⟨.type "dict", none, .dict #[⟨h1, .int 2 t1, .int 6 u1⟩, ⟨h2, .int 3 t2, .int 6 u2⟩, ⟨h3, .int 5 t3, .int 5 u3⟩, ⟨h4, .int 7 t4, .int 4 u4⟩] n0, #[]⟩)
    (eG : h1 = hashInt 2 ∧ h2 = hashInt 3 ∧ h3 = hashInt 5 ∧ h4 = hashInt 7)
    (oG : (a_GS == sysModules) = false)
    (sfC : PySem.W.selfFirst K a_Sum = true)
    (rmC : PySem.W.findIn K (.ref a_Sum) "__rmul__" = some none)
    (imC : ∃ fo, PySem.W.findIn K (.type "int") "__mul__" = some fo)
    (irC : ∃ fo, PySem.W.findIn K (.type "int") "__rmul__" = some fo)
    (isC : PySem.W.subIn K (.type "int") (.ref a_Sum) = some false)
    (fiC : PySem.W.fnIn K a_Sum_call = true)
    (gfP : PySem.W.fnIn K a_Table_getitem = true)
    (ktNoneType : PySem.W.kitOne K (.type "NoneType") (.ref a_Sum) = some false)
    (ktint : PySem.W.kitOne K (.type "int") (.ref a_Sum) = some false)
    (ktstr : PySem.W.kitOne K (.type "str") (.ref a_Sum) = some false)
    (kttuple : PySem.W.kitOne K (.type "tuple") (.ref a_Sum) = some false)
    (ktlist : PySem.W.kitOne K (.type "list") (.ref a_Sum) = some false) :
    ∃ fd : FuncData, (∀ (s : Shared) (v : Value), BindsTo s fd ⟨[v], []⟩ [("_law_script", v)]) ∧ ∀ base : Heap, K.In base → base.Ns mainGlobals mg → FnG l.prog w K mg base 16 fa fd ["_law_script"] (spD 1 W_law K) := by
  have e := hfa.symm.trans (PySem.W.mg_of X G g_law)
  have e2 : a_law = fa := by cases e; rfl
  obtain ⟨dv_Table_space, bv_Table_space, bd_Table_space⟩ := (funD_mkN (st := s_Table_space) l_Table_space c_Table_space k_Table_space ld_Table_space).binds1 (ps := ["self", "spots"]) 1 0 (by simp) rfl fun T kV doc pm an cdv ct us its h1 h2 => match us, its, h1, h2 with | [_], [_], _, _ => ⟨_, rfl, rfl⟩
  let T : Tx l.prog w K mg := {
    a_Sum := a_Sum
    g_Sum := PySem.W.mg_of X G g_Sum
    a_Space := a_Space
    g_Space := PySem.W.mg_of X G g_Space
    a_Table := a_Table
    g_Table := PySem.W.mg_of X G g_Table
    a_is_integer := a_is_integer
    f_is_integer := _
    F_is_integer := fun_mk (st := s_is_integer) l_is_integer c_is_integer k_is_integer
    b_is_integer := (fun_mk (st := s_is_integer) l_is_integer c_is_integer k_is_integer).binds fun _ _ _ _ _ _ us hl => match us, hl with | [_], _ => rfl
    g_is_integer := PySem.W.mg_of X G g_is_integer
    a_is_between := a_is_between
    f_is_between := _
    F_is_between := fun_mk (st := s_is_between) l_is_between c_is_between k_is_between
    b_is_between := (fun_mk (st := s_is_between) l_is_between c_is_between k_is_between).binds fun _ _ _ _ _ _ us hl => match us, hl with | [_, _, _], _ => rfl
    g_is_between := PySem.W.mg_of X G g_is_between
    a_has_items := a_has_items
    f_has_items := _
    F_has_items := fun_mk (st := s_has_items) l_has_items c_has_items k_has_items
    b_has_items := (fun_mk (st := s_has_items) l_has_items c_has_items k_has_items).binds fun _ _ _ _ _ _ us hl => match us, hl with | [_, _, _], _ => rfl
    g_has_items := PySem.W.mg_of X G g_has_items
    a_all_between := a_all_between
    f_all_between := _
    F_all_between := fun_mk (st := s_all_between) l_all_between c_all_between k_all_between
    b_all_between := (fun_mk (st := s_all_between) l_all_between c_all_between k_all_between).binds fun _ _ _ _ _ _ us hl => match us, hl with | [_, _, _], _ => rfl
    g_all_between := PySem.W.mg_of X G g_all_between
    a_is_ascending := a_is_ascending
    f_is_ascending := _
    F_is_ascending := fun_mk (st := s_is_ascending) l_is_ascending c_is_ascending k_is_ascending
    b_is_ascending := (fun_mk (st := s_is_ascending) l_is_ascending c_is_ascending k_is_ascending).binds fun _ _ _ _ _ _ us hl => match us, hl with | [_], _ => rfl
    g_is_ascending := PySem.W.mg_of X G g_is_ascending
    a_is_spot := a_is_spot
    f_is_spot := _
    F_is_spot := fun_mk (st := s_is_spot) l_is_spot c_is_spot k_is_spot
    b_is_spot := (fun_mk (st := s_is_spot) l_is_spot c_is_spot k_is_spot).binds fun _ _ _ _ _ _ us hl => match us, hl with | [_, _], _ => rfl
    g_is_spot := PySem.W.mg_of X G g_is_spot
    a_are_spots := a_are_spots
    f_are_spots := _
    F_are_spots := fun_mk (st := s_are_spots) l_are_spots c_are_spots k_are_spots
    b_are_spots := (fun_mk (st := s_are_spots) l_are_spots c_are_spots k_are_spots).binds fun _ _ _ _ _ _ us hl => match us, hl with | [_, _], _ => rfl
    g_are_spots := PySem.W.mg_of X G g_are_spots
    a_spots_of_parts := a_spots_of_parts
    f_spots_of_parts := _
    F_spots_of_parts := fun_mk (st := s_spots_of_parts) l_spots_of_parts c_spots_of_parts k_spots_of_parts
    b_spots_of_parts := (fun_mk (st := s_spots_of_parts) l_spots_of_parts c_spots_of_parts k_spots_of_parts).binds fun _ _ _ _ _ _ us hl => match us, hl with | [_], _ => rfl
    g_spots_of_parts := PySem.W.mg_of X G g_spots_of_parts
    a_is_prime := a_is_prime
    f_is_prime := _
    F_is_prime := fun_mk (st := s_is_prime) l_is_prime c_is_prime k_is_prime
    b_is_prime := (fun_mk (st := s_is_prime) l_is_prime c_is_prime k_is_prime).binds fun _ _ _ _ _ _ us hl => match us, hl with | [_], _ => rfl
    g_is_prime := PySem.W.mg_of X G g_is_prime
    a_is_size := a_is_size
    f_is_size := _
    F_is_size := fun_mk (st := s_is_size) l_is_size c_is_size k_is_size
    b_is_size := (fun_mk (st := s_is_size) l_is_size c_is_size k_is_size).binds fun _ _ _ _ _ _ us hl => match us, hl with | [_, _], _ => rfl
    g_is_size := PySem.W.mg_of X G g_is_size
    a_is_data := a_is_data
    f_is_data := _
    F_is_data := fun_mk (st := s_is_data) l_is_data c_is_data k_is_data
    b_is_data := (fun_mk (st := s_is_data) l_is_data c_is_data k_is_data).binds fun _ _ _ _ _ _ us hl => match us, hl with | [_, _, _], _ => rfl
    g_is_data := PySem.W.mg_of X G g_is_data
    a_expect_prime_and_size := a_expect_prime_and_size
    f_expect_prime_and_size := _
    F_expect_prime_and_size := fun_mk (st := s_expect_prime_and_size) l_expect_prime_and_size c_expect_prime_and_size k_expect_prime_and_size
    b_expect_prime_and_size := (fun_mk (st := s_expect_prime_and_size) l_expect_prime_and_size c_expect_prime_and_size k_expect_prime_and_size).binds fun _ _ _ _ _ _ us hl => match us, hl with | [_, _], _ => rfl
    g_expect_prime_and_size := PySem.W.mg_of X G g_expect_prime_and_size
    a_is_sum := a_is_sum
    f_is_sum := _
    F_is_sum := fun_mk (st := s_is_sum) l_is_sum c_is_sum k_is_sum
    b_is_sum := (fun_mk (st := s_is_sum) l_is_sum c_is_sum k_is_sum).binds fun _ _ _ _ _ _ us hl => match us, hl with | [_, _, _], _ => rfl
    g_is_sum := PySem.W.mg_of X G g_is_sum
    a_Sum_init := a_Sum_init
    f_Sum_init := _
    F_Sum_init := fun_mk (st := s_Sum_init) l_Sum_init c_Sum_init k_Sum_init
    b_Sum_init := (fun_mk (st := s_Sum_init) l_Sum_init c_Sum_init k_Sum_init).binds fun _ _ _ _ _ _ us hl => match us, hl with | [_, _, _], _ => rfl
    a_Sum_prime := a_Sum_prime
    f_Sum_prime := _
    F_Sum_prime := fun_mk (st := s_Sum_prime) l_Sum_prime c_Sum_prime k_Sum_prime
    b_Sum_prime := (fun_mk (st := s_Sum_prime) l_Sum_prime c_Sum_prime k_Sum_prime).binds fun _ _ _ _ _ _ us hl => match us, hl with | [_], _ => rfl
    a_Sum_factors := a_Sum_factors
    f_Sum_factors := _
    F_Sum_factors := fun_mk (st := s_Sum_factors) l_Sum_factors c_Sum_factors k_Sum_factors
    b_Sum_factors := (fun_mk (st := s_Sum_factors) l_Sum_factors c_Sum_factors k_Sum_factors).binds fun _ _ _ _ _ _ us hl => match us, hl with | [_], _ => rfl
    a_Sum_size := a_Sum_size
    f_Sum_size := _
    F_Sum_size := fun_mk (st := s_Sum_size) l_Sum_size c_Sum_size k_Sum_size
    b_Sum_size := (fun_mk (st := s_Sum_size) l_Sum_size c_Sum_size k_Sum_size).binds fun _ _ _ _ _ _ us hl => match us, hl with | [_], _ => rfl
    a_Sum_call := a_Sum_call
    f_Sum_call := _
    F_Sum_call := fun_mk (st := s_Sum_call) l_Sum_call c_Sum_call k_Sum_call
    b_Sum_call := (fun_mk (st := s_Sum_call) l_Sum_call c_Sum_call k_Sum_call).binds fun _ _ _ _ _ _ us hl => match us, hl with | [_, _], _ => rfl
    a_Sum_add := a_Sum_add
    f_Sum_add := _
    F_Sum_add := fun_mk (st := s_Sum_add) l_Sum_add c_Sum_add k_Sum_add
    b_Sum_add := (fun_mk (st := s_Sum_add) l_Sum_add c_Sum_add k_Sum_add).binds fun _ _ _ _ _ _ us hl => match us, hl with | [_, _], _ => rfl
    a_Sum_mul := a_Sum_mul
    f_Sum_mul := _
    F_Sum_mul := fun_mk (st := s_Sum_mul) l_Sum_mul c_Sum_mul k_Sum_mul
    b_Sum_mul := (fun_mk (st := s_Sum_mul) l_Sum_mul c_Sum_mul k_Sum_mul).binds fun _ _ _ _ _ _ us hl => match us, hl with | [_, _], _ => rfl
    a_Sum_eq := a_Sum_eq
    f_Sum_eq := _
    F_Sum_eq := fun_mk (st := s_Sum_eq) l_Sum_eq c_Sum_eq k_Sum_eq
    b_Sum_eq := (fun_mk (st := s_Sum_eq) l_Sum_eq c_Sum_eq k_Sum_eq).binds fun _ _ _ _ _ _ us hl => match us, hl with | [_, _], _ => rfl
    a_minus := a_minus
    f_minus := _
    F_minus := fun_mk (st := s_minus) l_minus c_minus k_minus
    b_minus := (fun_mk (st := s_minus) l_minus c_minus k_minus).binds fun _ _ _ _ _ _ us hl => match us, hl with | [_, _, _, _], _ => rfl
    g_minus := PySem.W.mg_of X G g_minus
    a_remainder := a_remainder
    f_remainder := _
    F_remainder := fun_mk (st := s_remainder) l_remainder c_remainder k_remainder
    b_remainder := (fun_mk (st := s_remainder) l_remainder c_remainder k_remainder).binds fun _ _ _ _ _ _ us hl => match us, hl with | [_, _, _], _ => rfl
    g_remainder := PySem.W.mg_of X G g_remainder
    a_led_by_one := a_led_by_one
    f_led_by_one := _
    F_led_by_one := fun_mk (st := s_led_by_one) l_led_by_one c_led_by_one k_led_by_one
    b_led_by_one := (fun_mk (st := s_led_by_one) l_led_by_one c_led_by_one k_led_by_one).binds fun _ _ _ _ _ _ us hl => match us, hl with | [_, _], _ => rfl
    g_led_by_one := PySem.W.mg_of X G g_led_by_one
    a_reduced_rows := a_reduced_rows
    f_reduced_rows := _
    F_reduced_rows := fun_mk (st := s_reduced_rows) l_reduced_rows c_reduced_rows k_reduced_rows
    b_reduced_rows := (fun_mk (st := s_reduced_rows) l_reduced_rows c_reduced_rows k_reduced_rows).binds fun _ _ _ _ _ _ us hl => match us, hl with | [_, _], _ => rfl
    g_reduced_rows := PySem.W.mg_of X G g_reduced_rows
    a_zero_row := a_zero_row
    f_zero_row := _
    F_zero_row := fun_mk (st := s_zero_row) l_zero_row c_zero_row k_zero_row
    b_zero_row := (fun_mk (st := s_zero_row) l_zero_row c_zero_row k_zero_row).binds fun _ _ _ _ _ _ us hl => match us, hl with | [_, _, _, _], _ => rfl
    g_zero_row := PySem.W.mg_of X G g_zero_row
    a_zero_rows := a_zero_rows
    f_zero_rows := _
    F_zero_rows := fun_mk (st := s_zero_rows) l_zero_rows c_zero_rows k_zero_rows
    b_zero_rows := (fun_mk (st := s_zero_rows) l_zero_rows c_zero_rows k_zero_rows).binds fun _ _ _ _ _ _ us hl => match us, hl with | [_, _, _], _ => rfl
    g_zero_rows := PySem.W.mg_of X G g_zero_rows
    a_blind_for := a_blind_for
    f_blind_for := _
    F_blind_for := fun_mk (st := s_blind_for) l_blind_for c_blind_for k_blind_for
    b_blind_for := (fun_mk (st := s_blind_for) l_blind_for c_blind_for k_blind_for).binds fun _ _ _ _ _ _ us hl => match us, hl with | [_, _], _ => rfl
    g_blind_for := PySem.W.mg_of X G g_blind_for
    dE_Space_init := dE_Space_init
    a_Space_init := a_Space_init
    f_Space_init := _
    F_Space_init := (funD_mk (st := s_Space_init) l_Space_init c_Space_init k_Space_init ld_Space_init)
    b_Space_init := binds_all (funD_mk (st := s_Space_init) l_Space_init c_Space_init k_Space_init ld_Space_init) 4 rfl fun T kV doc pm an cdv ct us its h1 h2 => match us, its, h1, h2 with | [_, _, _, _], [_], _, _ => ⟨_, rfl, rfl⟩
    a_Space_prime := a_Space_prime
    f_Space_prime := _
    F_Space_prime := fun_mk (st := s_Space_prime) l_Space_prime c_Space_prime k_Space_prime
    b_Space_prime := (fun_mk (st := s_Space_prime) l_Space_prime c_Space_prime k_Space_prime).binds fun _ _ _ _ _ _ us hl => match us, hl with | [_], _ => rfl
    a_Space_size := a_Space_size
    f_Space_size := _
    F_Space_size := fun_mk (st := s_Space_size) l_Space_size c_Space_size k_Space_size
    b_Space_size := (fun_mk (st := s_Space_size) l_Space_size c_Space_size k_Space_size).binds fun _ _ _ _ _ _ us hl => match us, hl with | [_], _ => rfl
    a_Space_reduced_sums := a_Space_reduced_sums
    f_Space_reduced_sums := _
    F_Space_reduced_sums := fun_mk (st := s_Space_reduced_sums) l_Space_reduced_sums c_Space_reduced_sums k_Space_reduced_sums
    b_Space_reduced_sums := (fun_mk (st := s_Space_reduced_sums) l_Space_reduced_sums c_Space_reduced_sums k_Space_reduced_sums).binds fun _ _ _ _ _ _ us hl => match us, hl with | [_], _ => rfl
    a_Space_is_whole := a_Space_is_whole
    f_Space_is_whole := _
    F_Space_is_whole := fun_mk (st := s_Space_is_whole) l_Space_is_whole c_Space_is_whole k_Space_is_whole
    b_Space_is_whole := (fun_mk (st := s_Space_is_whole) l_Space_is_whole c_Space_is_whole k_Space_is_whole).binds fun _ _ _ _ _ _ us hl => match us, hl with | [_], _ => rfl
    a_Space_blind_data := a_Space_blind_data
    f_Space_blind_data := _
    F_Space_blind_data := fun_mk (st := s_Space_blind_data) l_Space_blind_data c_Space_blind_data k_Space_blind_data
    b_Space_blind_data := (fun_mk (st := s_Space_blind_data) l_Space_blind_data c_Space_blind_data k_Space_blind_data).binds fun _ _ _ _ _ _ us hl => match us, hl with | [_, _], _ => rfl
    a_expect_question := a_expect_question
    f_expect_question := _
    F_expect_question := fun_mk (st := s_expect_question) l_expect_question c_expect_question k_expect_question
    b_expect_question := (fun_mk (st := s_expect_question) l_expect_question c_expect_question k_expect_question).binds fun _ _ _ _ _ _ us hl => match us, hl with | [_, _, _], _ => rfl
    g_expect_question := PySem.W.mg_of X G g_expect_question
    a_combination_for := a_combination_for
    f_combination_for := _
    F_combination_for := fun_mk (st := s_combination_for) l_combination_for c_combination_for k_combination_for
    b_combination_for := (fun_mk (st := s_combination_for) l_combination_for c_combination_for k_combination_for).binds fun _ _ _ _ _ _ us hl => match us, hl with | [_, _, _], _ => rfl
    g_combination_for := PySem.W.mg_of X G g_combination_for
    a_is_combination := a_is_combination
    f_is_combination := _
    F_is_combination := fun_mk (st := s_is_combination) l_is_combination c_is_combination k_is_combination
    b_is_combination := (fun_mk (st := s_is_combination) l_is_combination c_is_combination k_is_combination).binds fun _ _ _ _ _ _ us hl => match us, hl with | [_, _, _], _ => rfl
    g_is_combination := PySem.W.mg_of X G g_is_combination
    a_given_sum := a_given_sum
    f_given_sum := _
    F_given_sum := fun_mk (st := s_given_sum) l_given_sum c_given_sum k_given_sum
    b_given_sum := (fun_mk (st := s_given_sum) l_given_sum c_given_sum k_given_sum).binds fun _ _ _ _ _ _ us hl => match us, hl with | [_, _], _ => rfl
    g_given_sum := PySem.W.mg_of X G g_given_sum
    a_is_blind := a_is_blind
    f_is_blind := _
    F_is_blind := fun_mk (st := s_is_blind) l_is_blind c_is_blind k_is_blind
    b_is_blind := (fun_mk (st := s_is_blind) l_is_blind c_is_blind k_is_blind).binds fun _ _ _ _ _ _ us hl => match us, hl with | [_, _, _, _], _ => rfl
    g_is_blind := PySem.W.mg_of X G g_is_blind
    a_have := a_have
    f_have := _
    F_have := fun_mk (st := s_have) l_have c_have k_have
    b_have := (fun_mk (st := s_have) l_have c_have k_have).binds fun _ _ _ _ _ _ us hl => match us, hl with | [_, _, _], _ => rfl
    g_have := PySem.W.mg_of X G g_have
    a_is_have := a_is_have
    f_is_have := _
    F_is_have := fun_mk (st := s_is_have) l_is_have c_is_have k_is_have
    b_is_have := (fun_mk (st := s_is_have) l_is_have c_is_have k_is_have).binds fun _ _ _ _ _ _ us hl => match us, hl with | [_, _, _, _], _ => rfl
    g_is_have := PySem.W.mg_of X G g_is_have
    a_expect_pieces := a_expect_pieces
    f_expect_pieces := _
    F_expect_pieces := fun_mk (st := s_expect_pieces) l_expect_pieces c_expect_pieces k_expect_pieces
    b_expect_pieces := (fun_mk (st := s_expect_pieces) l_expect_pieces c_expect_pieces k_expect_pieces).binds fun _ _ _ _ _ _ us hl => match us, hl with | [_, _, _], _ => rfl
    g_expect_pieces := PySem.W.mg_of X G g_expect_pieces
    a_Table_init := a_Table_init
    f_Table_init := _
    F_Table_init := fun_mk (st := s_Table_init) l_Table_init c_Table_init k_Table_init
    b_Table_init := (fun_mk (st := s_Table_init) l_Table_init c_Table_init k_Table_init).binds fun _ _ _ _ _ _ us hl => match us, hl with | [_, _, _, _], _ => rfl
    a_Table_prime := a_Table_prime
    f_Table_prime := _
    F_Table_prime := fun_mk (st := s_Table_prime) l_Table_prime c_Table_prime k_Table_prime
    b_Table_prime := (fun_mk (st := s_Table_prime) l_Table_prime c_Table_prime k_Table_prime).binds fun _ _ _ _ _ _ us hl => match us, hl with | [_], _ => rfl
    a_Table_size := a_Table_size
    f_Table_size := _
    F_Table_size := fun_mk (st := s_Table_size) l_Table_size c_Table_size k_Table_size
    b_Table_size := (fun_mk (st := s_Table_size) l_Table_size c_Table_size k_Table_size).binds fun _ _ _ _ _ _ us hl => match us, hl with | [_], _ => rfl
    a_Table_len := a_Table_len
    f_Table_len := _
    F_Table_len := fun_mk (st := s_Table_len) l_Table_len c_Table_len k_Table_len
    b_Table_len := (fun_mk (st := s_Table_len) l_Table_len c_Table_len k_Table_len).binds fun _ _ _ _ _ _ us hl => match us, hl with | [_], _ => rfl
    a_Table_iter := a_Table_iter
    f_Table_iter := _
    F_Table_iter := fun_mk (st := s_Table_iter) l_Table_iter c_Table_iter k_Table_iter
    b_Table_iter := (fun_mk (st := s_Table_iter) l_Table_iter c_Table_iter k_Table_iter).binds fun _ _ _ _ _ _ us hl => match us, hl with | [_], _ => rfl
    a_Table_getitem := a_Table_getitem
    f_Table_getitem := _
    F_Table_getitem := fun_mk (st := s_Table_getitem) l_Table_getitem c_Table_getitem k_Table_getitem
    b_Table_getitem := (fun_mk (st := s_Table_getitem) l_Table_getitem c_Table_getitem k_Table_getitem).binds fun _ _ _ _ _ _ us hl => match us, hl with | [_, _], _ => rfl
    a_Table_space := a_Table_space
    f_Table_space := _
    F_Table_space := (funD_mkN (st := s_Table_space) l_Table_space c_Table_space k_Table_space ld_Table_space)
    b_Table_space := binds_all (funD_mkN (st := s_Table_space) l_Table_space c_Table_space k_Table_space ld_Table_space) 2 rfl fun T kV doc pm an cdv ct us its h1 h2 => match us, its, h1, h2 with | [_, _], [_], _, _ => ⟨_, rfl, rfl⟩
    a_law_source := a_law_source
    f_law_source := _
    F_law_source := fun_mk (st := s_law_source) l_law_source c_law_source k_law_source
    b_law_source := (fun_mk (st := s_law_source) l_law_source c_law_source k_law_source).binds fun _ _ _ _ _ _ us hl => match us, hl with | [_, _], _ => rfl
    g_law_source := PySem.W.mg_of X G g_law_source
    a_law_draw := a_law_draw
    f_law_draw := _
    F_law_draw := fun_mk (st := s_law_draw) l_law_draw c_law_draw k_law_draw
    b_law_draw := (fun_mk (st := s_law_draw) l_law_draw c_law_draw k_law_draw).binds fun _ _ _ _ _ _ us hl => match us, hl with | [_, _], _ => rfl
    g_law_draw := PySem.W.mg_of X G g_law_draw
    a_law_pick := a_law_pick
    f_law_pick := _
    F_law_pick := fun_mk (st := s_law_pick) l_law_pick c_law_pick k_law_pick
    b_law_pick := (fun_mk (st := s_law_pick) l_law_pick c_law_pick k_law_pick).binds fun _ _ _ _ _ _ us hl => match us, hl with | [_, _], _ => rfl
    g_law_pick := PySem.W.mg_of X G g_law_pick
    a_law_value := a_law_value
    f_law_value := _
    F_law_value := fun_mk (st := s_law_value) l_law_value c_law_value k_law_value
    b_law_value := (fun_mk (st := s_law_value) l_law_value c_law_value k_law_value).binds fun _ _ _ _ _ _ us hl => match us, hl with | [_, _, _], _ => rfl
    g_law_value := PySem.W.mg_of X G g_law_value
    a_law_factors := a_law_factors
    f_law_factors := _
    F_law_factors := fun_mk (st := s_law_factors) l_law_factors c_law_factors k_law_factors
    b_law_factors := (fun_mk (st := s_law_factors) l_law_factors c_law_factors k_law_factors).binds fun _ _ _ _ _ _ us hl => match us, hl with | [_, _, _], _ => rfl
    g_law_factors := PySem.W.mg_of X G g_law_factors
    a_law_form := a_law_form
    f_law_form := _
    F_law_form := fun_mk (st := s_law_form) l_law_form c_law_form k_law_form
    b_law_form := (fun_mk (st := s_law_form) l_law_form c_law_form k_law_form).binds fun _ _ _ _ _ _ us hl => match us, hl with | [_], _ => rfl
    g_law_form := PySem.W.mg_of X G g_law_form
    a_law_pieces := a_law_pieces
    f_law_pieces := _
    F_law_pieces := fun_mk (st := s_law_pieces) l_law_pieces c_law_pieces k_law_pieces
    b_law_pieces := (fun_mk (st := s_law_pieces) l_law_pieces c_law_pieces k_law_pieces).binds fun _ _ _ _ _ _ us hl => match us, hl with | [_, _, _, _], _ => rfl
    g_law_pieces := PySem.W.mg_of X G g_law_pieces
    a_law_spots := a_law_spots
    f_law_spots := _
    F_law_spots := fun_mk (st := s_law_spots) l_law_spots c_law_spots k_law_spots
    b_law_spots := (fun_mk (st := s_law_spots) l_law_spots c_law_spots k_law_spots).binds fun _ _ _ _ _ _ us hl => match us, hl with | [_], _ => rfl
    g_law_spots := PySem.W.mg_of X G g_law_spots
    a_law_some := a_law_some
    f_law_some := _
    F_law_some := fun_mk (st := s_law_some) l_law_some c_law_some k_law_some
    b_law_some := (fun_mk (st := s_law_some) l_law_some c_law_some k_law_some).binds fun _ _ _ _ _ _ us hl => match us, hl with | [_, _, _], _ => rfl
    g_law_some := PySem.W.mg_of X G g_law_some
    a_law_shown := a_law_shown
    f_law_shown := _
    F_law_shown := fun_mk (st := s_law_shown) l_law_shown c_law_shown k_law_shown
    b_law_shown := (fun_mk (st := s_law_shown) l_law_shown c_law_shown k_law_shown).binds fun _ _ _ _ _ _ us hl => match us, hl with | [_, _, _, _], _ => rfl
    g_law_shown := PySem.W.mg_of X G g_law_shown
    a_law_is_pair := a_law_is_pair
    f_law_is_pair := _
    F_law_is_pair := fun_mk (st := s_law_is_pair) l_law_is_pair c_law_is_pair k_law_is_pair
    b_law_is_pair := (fun_mk (st := s_law_is_pair) l_law_is_pair c_law_is_pair k_law_is_pair).binds fun _ _ _ _ _ _ us hl => match us, hl with | [_, _, _], _ => rfl
    g_law_is_pair := PySem.W.mg_of X G g_law_is_pair
    a_law_accepts := a_law_accepts
    f_law_accepts := _
    F_law_accepts := fun_mk (st := s_law_accepts) l_law_accepts c_law_accepts k_law_accepts
    b_law_accepts := (fun_mk (st := s_law_accepts) l_law_accepts c_law_accepts k_law_accepts).binds fun _ _ _ _ _ _ us hl => match us, hl with | [_, _, _, _, _], _ => rfl
    g_law_accepts := PySem.W.mg_of X G g_law_accepts
    a_law_bent := a_law_bent
    f_law_bent := _
    F_law_bent := fun_mk (st := s_law_bent) l_law_bent c_law_bent k_law_bent
    b_law_bent := (fun_mk (st := s_law_bent) l_law_bent c_law_bent k_law_bent).binds fun _ _ _ _ _ _ us hl => match us, hl with | [_, _, _, _, _], _ => rfl
    g_law_bent := PySem.W.mg_of X G g_law_bent
    a_law := a_law
    f_law := _
    F_law := fun_mk (st := s_law) l_law c_law k_law
    b_law := (fun_mk (st := s_law) l_law c_law k_law).binds fun _ _ _ _ _ _ us hl => match us, hl with | [_], _ => rfl
    g_law := PySem.W.mg_of X G g_law
    n_isinstance := PySem.W.mg_none_of X G n_isinstance
    n_int := PySem.W.mg_none_of X G n_int
    n_repr := PySem.W.mg_none_of X G n_repr
    n_str := PySem.W.mg_none_of X G n_str
    n_bool := PySem.W.mg_none_of X G n_bool
    n_list := PySem.W.mg_none_of X G n_list
    n_tuple := PySem.W.mg_none_of X G n_tuple
    n_len := PySem.W.mg_none_of X G n_len
    n_all := PySem.W.mg_none_of X G n_all
    n_any := PySem.W.mg_none_of X G n_any
    n_sum := PySem.W.mg_none_of X G n_sum
    n_zip := PySem.W.mg_none_of X G n_zip
    n_max := PySem.W.mg_none_of X G n_max
    n_min := PySem.W.mg_none_of X G n_min
    n_range := PySem.W.mg_none_of X G n_range
    n_sorted := PySem.W.mg_none_of X G n_sorted
    n_enumerate := PySem.W.mg_none_of X G n_enumerate
    n_reversed := PySem.W.mg_none_of X G n_reversed
    n_iter := PySem.W.mg_none_of X G n_iter
    n_set := PySem.W.mg_none_of X G n_set
    c_Sum := ⟨⟨pgSum, hdSum, poSum, saSum⟩, clSum, gtSum, tkSum, moSum⟩
    m_Sum := ⟨mkSum, f_Sum_init, i_Sum_init, kpSum⟩
    c_Space := ⟨⟨pgSpace, hdSpace, poSpace, saSpace⟩, clSpace, gtSpace, tkSpace, moSpace⟩
    m_Space := ⟨mkSpace, f_Space_init, i_Space_init, kpSpace⟩
    c_Table := ⟨⟨pgTable, hdTable, poTable, saTable⟩, clTable, gtTable, tkTable, moTable⟩
    m_Table := ⟨mkTable, f_Table_init, i_Table_init, kpTable⟩
    t_MOST_PIECES := t_MOST_PIECES
    g_MOST_PIECES := PySem.W.mg_of X G gc_MOST_PIECES
    t_MOST_PARTS := t_MOST_PARTS
    g_MOST_PARTS := PySem.W.mg_of X G gc_MOST_PARTS
    t_MOST_PARTS_IN_ALL := t_MOST_PARTS_IN_ALL
    g_MOST_PARTS_IN_ALL := PySem.W.mg_of X G gc_MOST_PARTS_IN_ALL
    sf_Sum := sfC
    o_add := f_Sum_add
    i_add := i_Sum_add
    o_mul := f_Sum_mul
    i_mul := i_Sum_mul
    o_rmul := rmC
    ii_mul := imC
    ii_rmul := irC
    ii_sub := isC
    o_eq := f_Sum_eq
    i_eq := i_Sum_eq
    nf_Sum := nsC
    kt_Sum := ksC
    call_Sum := ⟨f_Sum_call, i_Sum_call, fiC⟩
    it_Table := ⟨f_Table_iter, i_Table_iter, f_Table_len, i_Table_len⟩
    gi_Table := f_Table_getitem
    gf_Table := gfP
    gn_Table := i_Table_getitem
    me_space := ⟨f_Table_space, i_Table_space, k_Table_space⟩
    me_blind := ⟨f_Space_blind_data, i_Space_blind_data, k_Space_blind_data⟩
    a_GS := a_GS
    g_GS := PySem.W.mg_of X G gG
    d_GS := gs_dict lG eG oG
    dv_Table_space := dv_Table_space
    bd_Table_space := bd_Table_space
    bv_Table_space := bv_Table_space
    kt_NoneType := ktNoneType
    kt_int := ktint
    kt_str := ktstr
    kt_tuple := kttuple
    kt_list := ktlist
    na_prime := na_Sum_prime
    na_factors := na_Sum_factors
    ns_prime := na_Space_prime
    ns_size := na_Space_size
    ns_rows := na_Space_rows
    ns_reduced := na_Space_reduced
    nb_prime := na_Table_prime
    nb_size := na_Table_size
    nb_pieces := na_Table_pieces
    nb_spots := na_Table_spots
    nb_sums := na_Table_sums
    nb_whole := na_Table_whole
    q_Sum_prime := q_Sum_prime
    pp_Sum_prime := ⟨pa_Sum_prime, pg_Sum_prime, pt_Sum_prime, ⟨_, pc_Sum_prime⟩⟩
    q_Sum_factors := q_Sum_factors
    pp_Sum_factors := ⟨pa_Sum_factors, pg_Sum_factors, pt_Sum_factors, ⟨_, pc_Sum_factors⟩⟩
    q_Sum_size := q_Sum_size
    pp_Sum_size := ⟨pa_Sum_size, pg_Sum_size, pt_Sum_size, ⟨_, pc_Sum_size⟩⟩
    q_Space_prime := q_Space_prime
    pp_Space_prime := ⟨pa_Space_prime, pg_Space_prime, pt_Space_prime, ⟨_, pc_Space_prime⟩⟩
    q_Space_size := q_Space_size
    pp_Space_size := ⟨pa_Space_size, pg_Space_size, pt_Space_size, ⟨_, pc_Space_size⟩⟩
    q_Space_reduced_sums := q_Space_reduced_sums
    pp_Space_reduced_sums := ⟨pa_Space_reduced_sums, pg_Space_reduced_sums, pt_Space_reduced_sums, ⟨_, pc_Space_reduced_sums⟩⟩
    q_Space_is_whole := q_Space_is_whole
    pp_Space_is_whole := ⟨pa_Space_is_whole, pg_Space_is_whole, pt_Space_is_whole, ⟨_, pc_Space_is_whole⟩⟩
    q_Table_prime := q_Table_prime
    pp_Table_prime := ⟨pa_Table_prime, pg_Table_prime, pt_Table_prime, ⟨_, pc_Table_prime⟩⟩
    q_Table_size := q_Table_size
    pp_Table_size := ⟨pa_Table_size, pg_Table_size, pt_Table_size, ⟨_, pc_Table_size⟩⟩ }
  refine ⟨T.f_law, fun s v => .of_eq rfl, fun base _ _ => ?_⟩
  rw [← e2]
  exact ok_law T
end K11
section
open PySem PySem.W PyProof.Rows
local macro_rules | `(tactic| o_headL $H:term) => `(tactic| (have _hk := $H; assumption))
theorem Hk11.frag (h : (OpenLaw.row PySem.Challenge.rw_leastreads_k11_whole_answers_of_the_grou).Holds) : (OpenLaw.row PySem.Challenge.rw_leastreads_k11_whole_answers_of_the_grou).Holds := by
  k_headL
end
namespace Hk11
open PySem PySem.W PyProof.Rows
abbrev R : OpenRow := OpenLaw.row PySem.Challenge.rw_leastreads_k11_whole_answers_of_the_grou
def qv : Program := view R.prog [73]
def lo0 : List PySem.Str := [⟨⟨[95, 119, 97, 108, 108]⟩⟩, ⟨⟨[77, 79, 83, 84, 95, 80, 73, 69, 67, 69, 83]⟩⟩, ⟨⟨[77, 79, 83, 84, 95, 80, 65, 82, 84, 83]⟩⟩, ⟨⟨[105, 115, 95, 105, 110, 116, 101, 103, 101, 114]⟩⟩, ⟨⟨[105, 115, 95, 98, 101, 116, 119, 101, 101, 110]⟩⟩, ⟨⟨[104, 97, 115, 95, 105, 116, 101, 109, 115]⟩⟩, ⟨⟨[97, 108, 108, 95, 98, 101, 116, 119, 101, 101, 110]⟩⟩, ⟨⟨[105, 115, 95, 97, 115, 99, 101, 110, 100, 105, 110, 103]⟩⟩, ⟨⟨[105, 115, 95, 115, 112, 111, 116]⟩⟩, ⟨⟨[97, 114, 101, 95, 115, 112, 111, 116, 115]⟩⟩, ⟨⟨[115, 112, 111, 116, 115, 95, 111, 102, 95, 112, 97, 114, 116, 115]⟩⟩, ⟨⟨[76, 101, 97, 115, 116, 69, 114, 114, 111, 114]⟩⟩, ⟨⟨[73, 110, 118, 97, 108, 105, 100, 83, 117, 109]⟩⟩, ⟨⟨[73, 110, 118, 97, 108, 105, 100, 68, 97, 116, 97]⟩⟩, ⟨⟨[73, 110, 118, 97, 108, 105, 100, 84, 97, 98, 108, 101]⟩⟩, ⟨⟨[73, 110, 118, 97, 108, 105, 100, 83, 112, 111, 116, 115]⟩⟩, ⟨⟨[73, 110, 118, 97, 108, 105, 100, 83, 116, 111, 114, 101, 100]⟩⟩, ⟨⟨[73, 110, 118, 97, 108, 105, 100, 79, 112, 101, 114, 97, 110, 100]⟩⟩, ⟨⟨[73, 110, 118, 97, 108, 105, 100, 78, 117, 109, 98, 101, 114]⟩⟩, ⟨⟨[71, 82, 69, 65, 84, 69, 83, 84, 95, 83, 73, 90, 69, 83]⟩⟩, ⟨⟨[105, 115, 95, 112, 114, 105, 109, 101]⟩⟩, ⟨⟨[105, 115, 95, 115, 105, 122, 101]⟩⟩, ⟨⟨[105, 115, 95, 100, 97, 116, 97]⟩⟩, ⟨⟨[101, 120, 112, 101, 99, 116, 95, 112, 114, 105, 109, 101, 95, 97, 110, 100, 95, 115, 105, 122, 101]⟩⟩, ⟨⟨[105, 115, 95, 115, 117, 109]⟩⟩, ⟨⟨[83, 117, 109]⟩⟩, ⟨⟨[109, 105, 110, 117, 115]⟩⟩, ⟨⟨[114, 101, 109, 97, 105, 110, 100, 101, 114]⟩⟩, ⟨⟨[108, 101, 100, 95, 98, 121, 95, 111, 110, 101]⟩⟩, ⟨⟨[114, 101, 100, 117, 99, 101, 100, 95, 114, 111, 119, 115]⟩⟩, ⟨⟨[122, 101, 114, 111, 95, 114, 111, 119]⟩⟩, ⟨⟨[122, 101, 114, 111, 95, 114, 111, 119, 115]⟩⟩, ⟨⟨[103, 105, 118, 101, 110, 95, 114, 111, 119, 115]⟩⟩, ⟨⟨[98, 108, 105, 110, 100, 95, 102, 111, 114]⟩⟩, ⟨⟨[83, 112, 97, 99, 101]⟩⟩, ⟨⟨[101, 120, 112, 101, 99, 116, 95, 113, 117, 101, 115, 116, 105, 111, 110]⟩⟩, ⟨⟨[99, 111, 109, 98, 105, 110, 97, 116, 105, 111, 110, 95, 102, 111, 114]⟩⟩, ⟨⟨[105, 115, 95, 99, 111, 109, 98, 105, 110, 97, 116, 105, 111, 110]⟩⟩, ⟨⟨[103, 105, 118, 101, 110, 95, 115, 117, 109]⟩⟩, ⟨⟨[105, 115, 95, 98, 108, 105, 110, 100]⟩⟩]
def lo1 : List PySem.Str := [⟨⟨[104, 97, 118, 101]⟩⟩, ⟨⟨[105, 115, 95, 104, 97, 118, 101]⟩⟩, ⟨⟨[71, 82, 69, 65, 84, 69, 83, 84, 95, 86, 65, 76, 85, 69]⟩⟩, ⟨⟨[97, 114, 101, 95, 118, 97, 108, 117, 101, 115]⟩⟩, ⟨⟨[83, 116, 111, 114, 101, 100]⟩⟩, ⟨⟨[77, 79, 83, 84, 95, 80, 65, 82, 84, 83, 95, 73, 78, 95, 65, 76, 76]⟩⟩, ⟨⟨[101, 120, 112, 101, 99, 116, 95, 112, 105, 101, 99, 101, 115]⟩⟩, ⟨⟨[84, 97, 98, 108, 101]⟩⟩, ⟨⟨[95, 108, 97, 119, 95, 115, 111, 117, 114, 99, 101]⟩⟩, ⟨⟨[95, 108, 97, 119, 95, 100, 114, 97, 119]⟩⟩, ⟨⟨[95, 108, 97, 119, 95, 112, 105, 99, 107]⟩⟩, ⟨⟨[95, 108, 97, 119, 95, 97, 108, 108, 95, 100, 97, 116, 97]⟩⟩, ⟨⟨[95, 108, 97, 119, 95, 118, 97, 108, 117, 101]⟩⟩, ⟨⟨[95, 108, 97, 119, 95, 102, 97, 99, 116, 111, 114, 115]⟩⟩, ⟨⟨[95, 108, 97, 119, 95, 102, 111, 114, 109]⟩⟩, ⟨⟨[95, 108, 97, 119, 95, 112, 105, 101, 99, 101, 115]⟩⟩, ⟨⟨[95, 108, 97, 119, 95, 115, 112, 111, 116, 115]⟩⟩, ⟨⟨[95, 108, 97, 119, 95, 115, 101, 116, 115]⟩⟩, ⟨⟨[95, 108, 97, 119, 95, 115, 111, 109, 101]⟩⟩, ⟨⟨[95, 108, 97, 119, 95, 115, 104, 111, 119, 110]⟩⟩, ⟨⟨[95, 108, 97, 119, 95, 122, 101, 114, 111, 95, 100, 97, 116, 97]⟩⟩, ⟨⟨[95, 108, 97, 119, 95, 105, 115, 95, 104, 97, 100]⟩⟩, ⟨⟨[95, 108, 97, 119, 95, 105, 115, 95, 112, 97, 105, 114]⟩⟩, ⟨⟨[95, 108, 97, 119, 95, 97, 99, 99, 101, 112, 116, 115]⟩⟩, ⟨⟨[95, 108, 97, 119, 95, 98, 101, 110, 116]⟩⟩]
def lo : List PySem.Str := lo0 ++ lo1
def as0 : List Addr := [2, 3, 15, 17, 18, 20, 21, 22, 24, 25, 27, 28, 29, 31, 32, 34, 35, 36, 38, 39, 41, 42, 43, 46, 47, 48, 51, 52, 53, 55, 56, 58, 59, 60, 63, 64, 65, 68, 69, 70]
def as1 : List Addr := [77, 78, 79, 80, 83, 90, 92, 93, 95, 96, 97, 98, 99, 102, 109, 111, 112, 114, 115, 116, 117, 118, 121, 128, 130, 131, 133, 134, 135, 136, 137, 140, 147, 149, 150, 152, 153, 154, 155, 156]
def as2 : List Addr := [159, 166, 168, 169, 171, 172, 173, 174, 175, 178, 185, 187, 188, 190, 191, 192, 193, 194, 197, 204, 206, 207, 209, 210, 211, 212, 213, 216, 217, 219, 220, 222, 223, 224, 226, 227, 229, 230, 231, 233]
def as3 : List Addr := [234, 236, 237, 238, 240, 241, 243, 244, 245, 247, 248, 250, 251, 259, 261, 262, 264, 265, 266, 268, 269, 271, 272, 273, 274, 275, 276, 278, 279, 281, 282, 283, 284, 286, 287, 289, 290, 291, 292, 294]
def as4 : List Addr := [295, 297, 298, 299, 300, 302, 303, 305, 306, 307, 308, 311, 312, 313, 316, 317, 318, 321, 322, 323, 326, 327, 328, 331, 332, 333, 335, 336, 338, 339, 340, 341, 342, 343, 344, 347, 350, 351, 352, 354]
def as5 : List Addr := [355, 357, 358, 359, 362, 363, 364, 367, 368, 369, 372, 373, 374, 377, 378, 379, 382, 383, 384, 387, 388, 396, 397, 398, 401, 402, 403, 405, 406, 408, 409, 410, 411, 413, 414, 416, 417, 418, 419, 421]
def as6 : List Addr := [422, 424, 425, 426, 427, 429, 430, 432, 433, 434, 435, 437, 438, 440, 441, 442, 444, 445, 447, 448, 449, 451, 452, 454, 455, 456, 458, 459, 461, 462, 463, 466, 467, 468, 470, 471, 473, 474, 475, 478]
def as7 : List Addr := [479, 480, 482, 483, 485, 486, 487, 489, 490, 492, 493, 494, 496, 497, 499, 500, 501, 502, 503, 504, 505, 508, 510, 511, 513, 514, 515, 518, 519, 520, 523, 524, 525, 528, 529, 530, 533, 534, 535, 537]
def as8 : List Addr := [538, 540, 541, 542, 544, 545, 547, 548, 549, 551, 552, 554, 555, 563, 566, 567, 568, 570, 571, 573, 574, 575, 576, 579, 580, 581, 582, 584, 585, 587, 588, 589, 591, 592, 594, 595, 596, 598, 599, 601]
def as9 : List Addr := [602, 603, 605, 606, 608, 609, 610, 612, 613, 615, 616, 617, 619, 620, 622, 623, 624, 626, 627, 629, 630, 631, 634, 635, 636, 638, 639, 641, 642, 643, 644, 645, 646, 647, 650, 653, 654, 662, 665, 666]
def as10 : List Addr := [667, 669, 670, 672, 673, 674, 675, 677, 678, 680, 681, 682, 683, 685, 686, 688, 689, 690, 691, 693, 694, 696, 697, 698, 699, 701, 702, 704, 705, 706, 708, 709, 711, 712, 713, 715, 716, 718, 719, 720]
def as11 : List Addr := [722, 723, 725, 726, 727, 729, 730, 732, 733, 734, 737, 738, 739, 740, 743, 744, 745, 747, 748, 750, 751, 752, 754, 755, 757, 758, 759, 760, 761, 762, 763, 766, 768, 769, 771, 772, 773, 775, 776, 778]
def as12 : List Addr := [779, 780, 782, 783, 785, 786, 792, 795, 796, 797, 800, 801, 802, 804, 805, 807, 808, 809, 812, 813, 814, 817, 818, 824, 827, 828, 829, 831, 832, 834, 835, 846, 849, 850, 851, 854, 855, 856, 859, 860]
def as13 : List Addr := [861, 863, 864, 866, 867]
def asL : List Addr := as0 ++ as1 ++ as2 ++ as3 ++ as4 ++ as5 ++ as6 ++ as7 ++ as8 ++ as9 ++ as10 ++ as11 ++ as12 ++ as13
theorem ek (P : Params) : asL = (Hk11.frag.heap_1 P).map (·.1) := by kernel_rfl
def Runs (w : World) : Prop := ∀ os : OsState, (HeadRun.endF (HeadRun.stepQ (HeadRun.denQ HeadRun.tabQ) R.prog w) 13788 R.prog w os).map (fun s => (HeadRun.looksF R.prog (boot_heap w.params) s.abs, HeadRun.seenQ qv lo (importedModules R.prog.main.body) (fun s => xlAt qv [] s && recOk (RowW.records (OpenRow.toRowW R)) s) s.abs, asL.map (HeadRun.getT s))) = some (true, openGood qv lo, (Hk11.frag.heap_1 w.params).map fun x => some x.2)
set_option maxRecDepth 100000
theorem runf (w : World) : Runs (w.withFollow "special-get-raises" false) := by
  intro os
  kernel_rfl
theorem runt (w : World) : Runs (w.withFollow "special-get-raises" true) := by
  intro os
  kernel_rfl
theorem run (w : World) : Runs w := byRow2 "special-get-raises" (P := Runs) runf runt w
theorem left : LeftO R.prog qv lo (fun s => xlAt qv [] s && recOk (RowW.records (OpenRow.toRowW R)) s) (Hook.obs (kHook Hk11.frag.heap_1 asL ek)) (Hook.val (kHook Hk11.frag.heap_1 asL ek)) 14488 true :=
  HeadRun.left_oneK (M := 13788) (by kernel_rfl) (by rfl) (fun s => by kernel_rfl) (by rfl) run
end Hk11
open PySem PySem.W PyProof.Rows
set_option maxRecDepth 100000 in
set_option maxHeartbeats 0 in
theorem PySem.Challenge.cw_leastreads_k11_whole_answers_of_the_grou_holds : PySem.Challenge.rw_leastreads_k11_whole_answers_of_the_grou.Holds := by
  w_on; o_law
  refine holds_open (d := HandSHeadRun.topDef Hk11.R.prog 73) (kwd := []) (q := Hk11.qv) (loose := Hk11.lo) (Xt := fun s => xlAt Hk11.qv [] s && recOk (RowW.records (OpenRow.toRowW Hk11.R)) s) (XP := XL Hk11.qv []) (Yf := Hook.obs (kHook Hk11.frag.heap_1 Hk11.asL Hk11.ek)) (Ya := Hook.val (kHook Hk11.frag.heap_1 Hk11.asL Hk11.ek)) (YP := Hook.says (kHook Hk11.frag.heap_1 Hk11.asL Hk11.ek)) (N := 14488) Hk11.left (Hook.of (kHook Hk11.frag.heap_1 Hk11.asL Hk11.ek)) (Hook.keeps (kHook Hk11.frag.heap_1 Hk11.asL Hk11.ek)) (fun s e => xl_of s (Bool.and_eq_true_iff.mp e).1) XL.keeps (by kernel_rfl) (by kernel_rfl) (by kernel_rfl) (fun s e => recFacts_of (Bool.and_eq_true_iff.mp e).2) (by rfl) (by first | assumption | decide +kernel) (by decide +kernel) ⟨rfl, rfl, rfl, rfl, rfl, by decide +kernel⟩ ?hw ?hc
  case hw => w_witness2
  case' hc => k_fill
  refine Pd.walk_ofG (l := PySem.Challenge.rw_leastreads_k11_whole_answers_of_the_grou) (n := 63) (k := 16) (x := "_law_script") (sp := fun w => Pd.spD 1 K11.W_law _) rfl (by decide) (by kernel_rfl) ⟨rfl, by decide, by decide⟩ (fun w h Y => PySem.W.kIn_of Y) ?F (fun _ H a ns hl _ hS => Pd.sp_script hS ⟨ns, rfl, rfl, rfl⟩)
  case F =>
    intro w mg fa h KX G hmg0
    have hmg : mg ("law" : PySem.Str) = some (.ref fa) := by
      have e : (HandSHeadRun.topDef Hk11.R.prog 73).name = ("law" : PySem.Str) := by kernel_rfl
      rw [← e]
      exact hmg0
    refine' K11.all_mk KX G hmg ?g_Sum ?g_Space ?g_Table ?g_is_integer ?i_is_integer ?l_is_integer ?c_is_integer ?k_is_integer ?g_is_between ?i_is_between ?l_is_between ?c_is_between ?k_is_between ?g_has_items ?i_has_items ?l_has_items ?c_has_items ?k_has_items ?g_all_between ?i_all_between ?l_all_between ?c_all_between ?k_all_between ?g_is_ascending ?i_is_ascending ?l_is_ascending ?c_is_ascending ?k_is_ascending ?g_is_spot ?i_is_spot ?l_is_spot ?c_is_spot ?k_is_spot ?g_are_spots ?i_are_spots ?l_are_spots ?c_are_spots ?k_are_spots ?g_spots_of_parts ?i_spots_of_parts ?l_spots_of_parts ?c_spots_of_parts ?k_spots_of_parts ?g_is_prime ?i_is_prime ?l_is_prime ?c_is_prime ?k_is_prime ?g_is_size ?i_is_size ?l_is_size ?c_is_size ?k_is_size ?g_is_data ?i_is_data ?l_is_data ?c_is_data ?k_is_data ?g_expect_prime_and_size ?i_expect_prime_and_size ?l_expect_prime_and_size ?c_expect_prime_and_size ?k_expect_prime_and_size ?g_is_sum ?i_is_sum ?l_is_sum ?c_is_sum ?k_is_sum ?f_Sum_init ?i_Sum_init ?l_Sum_init ?c_Sum_init ?k_Sum_init ?pa_Sum_prime ?pg_Sum_prime ?pt_Sum_prime ?pc_Sum_prime ?i_Sum_prime ?l_Sum_prime ?c_Sum_prime ?k_Sum_prime ?pa_Sum_factors ?pg_Sum_factors ?pt_Sum_factors ?pc_Sum_factors ?i_Sum_factors ?l_Sum_factors ?c_Sum_factors ?k_Sum_factors ?pa_Sum_size ?pg_Sum_size ?pt_Sum_size ?pc_Sum_size ?i_Sum_size ?l_Sum_size ?c_Sum_size ?k_Sum_size ?f_Sum_call ?i_Sum_call ?l_Sum_call ?c_Sum_call ?k_Sum_call ?f_Sum_add ?i_Sum_add ?l_Sum_add ?c_Sum_add ?k_Sum_add ?f_Sum_mul ?i_Sum_mul ?l_Sum_mul ?c_Sum_mul ?k_Sum_mul ?f_Sum_eq ?i_Sum_eq ?l_Sum_eq ?c_Sum_eq ?k_Sum_eq ?g_minus ?i_minus ?l_minus ?c_minus ?k_minus ?g_remainder ?i_remainder ?l_remainder ?c_remainder ?k_remainder ?g_led_by_one ?i_led_by_one ?l_led_by_one ?c_led_by_one ?k_led_by_one ?g_reduced_rows ?i_reduced_rows ?l_reduced_rows ?c_reduced_rows ?k_reduced_rows ?g_zero_row ?i_zero_row ?l_zero_row ?c_zero_row ?k_zero_row ?g_zero_rows ?i_zero_rows ?l_zero_rows ?c_zero_rows ?k_zero_rows ?g_blind_for ?i_blind_for ?l_blind_for ?c_blind_for ?k_blind_for ?f_Space_init ?i_Space_init ?l_Space_init ?c_Space_init ?k_Space_init ?ld_Space_init ?pa_Space_prime ?pg_Space_prime ?pt_Space_prime ?pc_Space_prime ?i_Space_prime ?l_Space_prime ?c_Space_prime ?k_Space_prime ?pa_Space_size ?pg_Space_size ?pt_Space_size ?pc_Space_size ?i_Space_size ?l_Space_size ?c_Space_size ?k_Space_size ?pa_Space_reduced_sums ?pg_Space_reduced_sums ?pt_Space_reduced_sums ?pc_Space_reduced_sums ?i_Space_reduced_sums ?l_Space_reduced_sums ?c_Space_reduced_sums ?k_Space_reduced_sums ?pa_Space_is_whole ?pg_Space_is_whole ?pt_Space_is_whole ?pc_Space_is_whole ?i_Space_is_whole ?l_Space_is_whole ?c_Space_is_whole ?k_Space_is_whole ?f_Space_blind_data ?i_Space_blind_data ?l_Space_blind_data ?c_Space_blind_data ?k_Space_blind_data ?g_expect_question ?i_expect_question ?l_expect_question ?c_expect_question ?k_expect_question ?g_combination_for ?i_combination_for ?l_combination_for ?c_combination_for ?k_combination_for ?g_is_combination ?i_is_combination ?l_is_combination ?c_is_combination ?k_is_combination ?g_given_sum ?i_given_sum ?l_given_sum ?c_given_sum ?k_given_sum ?g_is_blind ?i_is_blind ?l_is_blind ?c_is_blind ?k_is_blind ?g_have ?i_have ?l_have ?c_have ?k_have ?g_is_have ?i_is_have ?l_is_have ?c_is_have ?k_is_have ?g_expect_pieces ?i_expect_pieces ?l_expect_pieces ?c_expect_pieces ?k_expect_pieces ?f_Table_init ?i_Table_init ?l_Table_init ?c_Table_init ?k_Table_init ?pa_Table_prime ?pg_Table_prime ?pt_Table_prime ?pc_Table_prime ?i_Table_prime ?l_Table_prime ?c_Table_prime ?k_Table_prime ?pa_Table_size ?pg_Table_size ?pt_Table_size ?pc_Table_size ?i_Table_size ?l_Table_size ?c_Table_size ?k_Table_size ?f_Table_len ?i_Table_len ?l_Table_len ?c_Table_len ?k_Table_len ?f_Table_iter ?i_Table_iter ?l_Table_iter ?c_Table_iter ?k_Table_iter ?f_Table_getitem ?i_Table_getitem ?l_Table_getitem ?c_Table_getitem ?k_Table_getitem ?f_Table_space ?i_Table_space ?l_Table_space ?c_Table_space ?k_Table_space ?ld_Table_space ?g_law_source ?i_law_source ?l_law_source ?c_law_source ?k_law_source ?g_law_draw ?i_law_draw ?l_law_draw ?c_law_draw ?k_law_draw ?g_law_pick ?i_law_pick ?l_law_pick ?c_law_pick ?k_law_pick ?g_law_value ?i_law_value ?l_law_value ?c_law_value ?k_law_value ?g_law_factors ?i_law_factors ?l_law_factors ?c_law_factors ?k_law_factors ?g_law_form ?i_law_form ?l_law_form ?c_law_form ?k_law_form ?g_law_pieces ?i_law_pieces ?l_law_pieces ?c_law_pieces ?k_law_pieces ?g_law_spots ?i_law_spots ?l_law_spots ?c_law_spots ?k_law_spots ?g_law_some ?i_law_some ?l_law_some ?c_law_some ?k_law_some ?g_law_shown ?i_law_shown ?l_law_shown ?c_law_shown ?k_law_shown ?g_law_is_pair ?i_law_is_pair ?l_law_is_pair ?c_law_is_pair ?k_law_is_pair ?g_law_accepts ?i_law_accepts ?l_law_accepts ?c_law_accepts ?k_law_accepts ?g_law_bent ?i_law_bent ?l_law_bent ?c_law_bent ?k_law_bent ?g_law ?i_law ?l_law ?c_law ?k_law ?n_isinstance ?n_int ?n_repr ?n_str ?n_bool ?n_list ?n_tuple ?n_len ?n_all ?n_any ?n_sum ?n_zip ?n_max ?n_min ?n_range ?n_sorted ?n_enumerate ?n_reversed ?n_iter ?n_set ?pgSum ?hdSum ?poSum ?saSum ?mkSum ?kpSum ?clSum ?gtSum ?tkSum ?moSum ?na_Sum_prime ?na_Sum_factors ?pgSpace ?hdSpace ?poSpace ?saSpace ?mkSpace ?kpSpace ?clSpace ?gtSpace ?tkSpace ?moSpace ?na_Space_prime ?na_Space_size ?na_Space_rows ?na_Space_reduced ?pgTable ?hdTable ?poTable ?saTable ?mkTable ?kpTable ?clTable ?gtTable ?tkTable ?moTable ?na_Table_prime ?na_Table_size ?na_Table_pieces ?na_Table_spots ?na_Table_sums ?na_Table_whole ?gc_MOST_PIECES ?gc_MOST_PARTS ?gc_MOST_PARTS_IN_ALL ?nsC ?ksC ?gG ?lG ?eG ?oG ?sfC ?rmC ?imC ?irC ?isC ?fiC ?gfP ?ktNoneType ?ktint ?ktstr ?kttuple ?ktlist
    (case g_Sum => k_is)
    (case g_Space => k_is)
    (case g_Table => k_is)
    (case g_is_integer => k_is)
    (case i_is_integer => k_is)
    (case l_is_integer => k_is)
    (case c_is_integer => k_is)
    (case k_is_integer => k_is)
    (case g_is_between => k_is)
    (case i_is_between => k_is)
    (case l_is_between => k_is)
    (case c_is_between => k_is)
    (case k_is_between => k_is)
    (case g_has_items => k_is)
    (case i_has_items => k_is)
    (case l_has_items => k_is)
    (case c_has_items => k_is)
    (case k_has_items => k_is)
    (case g_all_between => k_is)
    (case i_all_between => k_is)
    (case l_all_between => k_is)
    (case c_all_between => k_is)
    (case k_all_between => k_is)
    (case g_is_ascending => k_is)
    (case i_is_ascending => k_is)
    (case l_is_ascending => k_is)
    (case c_is_ascending => k_is)
    (case k_is_ascending => k_is)
    (case g_is_spot => k_is)
    (case i_is_spot => k_is)
    (case l_is_spot => k_is)
    (case c_is_spot => k_is)
    (case k_is_spot => k_is)
    (case g_are_spots => k_is)
    (case i_are_spots => k_is)
    (case l_are_spots => k_is)
    (case c_are_spots => k_is)
    (case k_are_spots => k_is)
    (case g_spots_of_parts => k_is)
    (case i_spots_of_parts => k_is)
    (case l_spots_of_parts => k_is)
    (case c_spots_of_parts => k_is)
    (case k_spots_of_parts => k_is)
    (case g_is_prime => k_is)
    (case i_is_prime => k_is)
    (case l_is_prime => k_is)
    (case c_is_prime => k_is)
    (case k_is_prime => k_is)
    (case g_is_size => k_is)
    (case i_is_size => k_is)
    (case l_is_size => k_is)
    (case c_is_size => k_is)
    (case k_is_size => k_is)
    (case g_is_data => k_is)
    (case i_is_data => k_is)
    (case l_is_data => k_is)
    (case c_is_data => k_is)
    (case k_is_data => k_is)
    (case g_expect_prime_and_size => k_is)
    (case i_expect_prime_and_size => k_is)
    (case l_expect_prime_and_size => k_is)
    (case c_expect_prime_and_size => k_is)
    (case k_expect_prime_and_size => k_is)
    (case g_is_sum => k_is)
    (case i_is_sum => k_is)
    (case l_is_sum => k_is)
    (case c_is_sum => k_is)
    (case k_is_sum => k_is)
    (case f_Sum_init => k_is)
    (case i_Sum_init => k_is)
    (case l_Sum_init => k_is)
    (case c_Sum_init => k_is)
    (case k_Sum_init => k_is)
    (case pa_Sum_prime => k_is)
    (case pg_Sum_prime => k_is)
    (case pt_Sum_prime => k_is)
    (case pc_Sum_prime => k_is)
    (case i_Sum_prime => k_is)
    (case l_Sum_prime => k_is)
    (case c_Sum_prime => k_is)
    (case k_Sum_prime => k_is)
    (case pa_Sum_factors => k_is)
    (case pg_Sum_factors => k_is)
    (case pt_Sum_factors => k_is)
    (case pc_Sum_factors => k_is)
    (case i_Sum_factors => k_is)
    (case l_Sum_factors => k_is)
    (case c_Sum_factors => k_is)
    (case k_Sum_factors => k_is)
    (case pa_Sum_size => k_is)
    (case pg_Sum_size => k_is)
    (case pt_Sum_size => k_is)
    (case pc_Sum_size => k_is)
    (case i_Sum_size => k_is)
    (case l_Sum_size => k_is)
    (case c_Sum_size => k_is)
    (case k_Sum_size => k_is)
    (case f_Sum_call => k_is)
    (case i_Sum_call => k_is)
    (case l_Sum_call => k_is)
    (case c_Sum_call => k_is)
    (case k_Sum_call => k_is)
    (case f_Sum_add => k_is)
    (case i_Sum_add => k_is)
    (case l_Sum_add => k_is)
    (case c_Sum_add => k_is)
    (case k_Sum_add => k_is)
    (case f_Sum_mul => k_is)
    (case i_Sum_mul => k_is)
    (case l_Sum_mul => k_is)
    (case c_Sum_mul => k_is)
    (case k_Sum_mul => k_is)
    (case f_Sum_eq => k_is)
    (case i_Sum_eq => k_is)
    (case l_Sum_eq => k_is)
    (case c_Sum_eq => k_is)
    (case k_Sum_eq => k_is)
    (case g_minus => k_is)
    (case i_minus => k_is)
    (case l_minus => k_is)
    (case c_minus => k_is)
    (case k_minus => k_is)
    (case g_remainder => k_is)
    (case i_remainder => k_is)
    (case l_remainder => k_is)
    (case c_remainder => k_is)
    (case k_remainder => k_is)
    (case g_led_by_one => k_is)
    (case i_led_by_one => k_is)
    (case l_led_by_one => k_is)
    (case c_led_by_one => k_is)
    (case k_led_by_one => k_is)
    (case g_reduced_rows => k_is)
    (case i_reduced_rows => k_is)
    (case l_reduced_rows => k_is)
    (case c_reduced_rows => k_is)
    (case k_reduced_rows => k_is)
    (case g_zero_row => k_is)
    (case i_zero_row => k_is)
    (case l_zero_row => k_is)
    (case c_zero_row => k_is)
    (case k_zero_row => k_is)
    (case g_zero_rows => k_is)
    (case i_zero_rows => k_is)
    (case l_zero_rows => k_is)
    (case c_zero_rows => k_is)
    (case k_zero_rows => k_is)
    (case g_blind_for => k_is)
    (case i_blind_for => k_is)
    (case l_blind_for => k_is)
    (case c_blind_for => k_is)
    (case k_blind_for => k_is)
    (case f_Space_init => k_is)
    (case i_Space_init => k_is)
    (case l_Space_init => k_is)
    (case c_Space_init => k_is)
    (case k_Space_init => k_is)
    (case ld_Space_init => k_is)
    (case pa_Space_prime => k_is)
    (case pg_Space_prime => k_is)
    (case pt_Space_prime => k_is)
    (case pc_Space_prime => k_is)
    (case i_Space_prime => k_is)
    (case l_Space_prime => k_is)
    (case c_Space_prime => k_is)
    (case k_Space_prime => k_is)
    (case pa_Space_size => k_is)
    (case pg_Space_size => k_is)
    (case pt_Space_size => k_is)
    (case pc_Space_size => k_is)
    (case i_Space_size => k_is)
    (case l_Space_size => k_is)
    (case c_Space_size => k_is)
    (case k_Space_size => k_is)
    (case pa_Space_reduced_sums => k_is)
    (case pg_Space_reduced_sums => k_is)
    (case pt_Space_reduced_sums => k_is)
    (case pc_Space_reduced_sums => k_is)
    (case i_Space_reduced_sums => k_is)
    (case l_Space_reduced_sums => k_is)
    (case c_Space_reduced_sums => k_is)
    (case k_Space_reduced_sums => k_is)
    (case pa_Space_is_whole => k_is)
    (case pg_Space_is_whole => k_is)
    (case pt_Space_is_whole => k_is)
    (case pc_Space_is_whole => k_is)
    (case i_Space_is_whole => k_is)
    (case l_Space_is_whole => k_is)
    (case c_Space_is_whole => k_is)
    (case k_Space_is_whole => k_is)
    (case f_Space_blind_data => k_is)
    (case i_Space_blind_data => k_is)
    (case l_Space_blind_data => k_is)
    (case c_Space_blind_data => k_is)
    (case k_Space_blind_data => k_is)
    (case g_expect_question => k_is)
    (case i_expect_question => k_is)
    (case l_expect_question => k_is)
    (case c_expect_question => k_is)
    (case k_expect_question => k_is)
    (case g_combination_for => k_is)
    (case i_combination_for => k_is)
    (case l_combination_for => k_is)
    (case c_combination_for => k_is)
    (case k_combination_for => k_is)
    (case g_is_combination => k_is)
    (case i_is_combination => k_is)
    (case l_is_combination => k_is)
    (case c_is_combination => k_is)
    (case k_is_combination => k_is)
    (case g_given_sum => k_is)
    (case i_given_sum => k_is)
    (case l_given_sum => k_is)
    (case c_given_sum => k_is)
    (case k_given_sum => k_is)
    (case g_is_blind => k_is)
    (case i_is_blind => k_is)
    (case l_is_blind => k_is)
    (case c_is_blind => k_is)
    (case k_is_blind => k_is)
    (case g_have => k_is)
    (case i_have => k_is)
    (case l_have => k_is)
    (case c_have => k_is)
    (case k_have => k_is)
    (case g_is_have => k_is)
    (case i_is_have => k_is)
    (case l_is_have => k_is)
    (case c_is_have => k_is)
    (case k_is_have => k_is)
    (case g_expect_pieces => k_is)
    (case i_expect_pieces => k_is)
    (case l_expect_pieces => k_is)
    (case c_expect_pieces => k_is)
    (case k_expect_pieces => k_is)
    (case f_Table_init => k_is)
    (case i_Table_init => k_is)
    (case l_Table_init => k_is)
    (case c_Table_init => k_is)
    (case k_Table_init => k_is)
    (case pa_Table_prime => k_is)
    (case pg_Table_prime => k_is)
    (case pt_Table_prime => k_is)
    (case pc_Table_prime => k_is)
    (case i_Table_prime => k_is)
    (case l_Table_prime => k_is)
    (case c_Table_prime => k_is)
    (case k_Table_prime => k_is)
    (case pa_Table_size => k_is)
    (case pg_Table_size => k_is)
    (case pt_Table_size => k_is)
    (case pc_Table_size => k_is)
    (case i_Table_size => k_is)
    (case l_Table_size => k_is)
    (case c_Table_size => k_is)
    (case k_Table_size => k_is)
    (case f_Table_len => k_is)
    (case i_Table_len => k_is)
    (case l_Table_len => k_is)
    (case c_Table_len => k_is)
    (case k_Table_len => k_is)
    (case f_Table_iter => k_is)
    (case i_Table_iter => k_is)
    (case l_Table_iter => k_is)
    (case c_Table_iter => k_is)
    (case k_Table_iter => k_is)
    (case f_Table_getitem => k_is)
    (case i_Table_getitem => k_is)
    (case l_Table_getitem => k_is)
    (case c_Table_getitem => k_is)
    (case k_Table_getitem => k_is)
    (case f_Table_space => k_is)
    (case i_Table_space => k_is)
    (case l_Table_space => k_is)
    (case c_Table_space => k_is)
    (case k_Table_space => k_is)
    (case ld_Table_space => k_is)
    (case g_law_source => k_is)
    (case i_law_source => k_is)
    (case l_law_source => k_is)
    (case c_law_source => k_is)
    (case k_law_source => k_is)
    (case g_law_draw => k_is)
    (case i_law_draw => k_is)
    (case l_law_draw => k_is)
    (case c_law_draw => k_is)
    (case k_law_draw => k_is)
    (case g_law_pick => k_is)
    (case i_law_pick => k_is)
    (case l_law_pick => k_is)
    (case c_law_pick => k_is)
    (case k_law_pick => k_is)
    (case g_law_value => k_is)
    (case i_law_value => k_is)
    (case l_law_value => k_is)
    (case c_law_value => k_is)
    (case k_law_value => k_is)
    (case g_law_factors => k_is)
    (case i_law_factors => k_is)
    (case l_law_factors => k_is)
    (case c_law_factors => k_is)
    (case k_law_factors => k_is)
    (case g_law_form => k_is)
    (case i_law_form => k_is)
    (case l_law_form => k_is)
    (case c_law_form => k_is)
    (case k_law_form => k_is)
    (case g_law_pieces => k_is)
    (case i_law_pieces => k_is)
    (case l_law_pieces => k_is)
    (case c_law_pieces => k_is)
    (case k_law_pieces => k_is)
    (case g_law_spots => k_is)
    (case i_law_spots => k_is)
    (case l_law_spots => k_is)
    (case c_law_spots => k_is)
    (case k_law_spots => k_is)
    (case g_law_some => k_is)
    (case i_law_some => k_is)
    (case l_law_some => k_is)
    (case c_law_some => k_is)
    (case k_law_some => k_is)
    (case g_law_shown => k_is)
    (case i_law_shown => k_is)
    (case l_law_shown => k_is)
    (case c_law_shown => k_is)
    (case k_law_shown => k_is)
    (case g_law_is_pair => k_is)
    (case i_law_is_pair => k_is)
    (case l_law_is_pair => k_is)
    (case c_law_is_pair => k_is)
    (case k_law_is_pair => k_is)
    (case g_law_accepts => k_is)
    (case i_law_accepts => k_is)
    (case l_law_accepts => k_is)
    (case c_law_accepts => k_is)
    (case k_law_accepts => k_is)
    (case g_law_bent => k_is)
    (case i_law_bent => k_is)
    (case l_law_bent => k_is)
    (case c_law_bent => k_is)
    (case k_law_bent => k_is)
    (case g_law => k_is)
    (case i_law => k_is)
    (case l_law => k_is)
    (case c_law => k_is)
    (case k_law => k_is)
    (case n_isinstance => k_is)
    (case n_int => k_is)
    (case n_repr => k_is)
    (case n_str => k_is)
    (case n_bool => k_is)
    (case n_list => k_is)
    (case n_tuple => k_is)
    (case n_len => k_is)
    (case n_all => k_is)
    (case n_any => k_is)
    (case n_sum => k_is)
    (case n_zip => k_is)
    (case n_max => k_is)
    (case n_min => k_is)
    (case n_range => k_is)
    (case n_sorted => k_is)
    (case n_enumerate => k_is)
    (case n_reversed => k_is)
    (case n_iter => k_is)
    (case n_set => k_is)
    (case pgSum => k_is)
    (case hdSum => k_is)
    (case poSum => k_is)
    (case saSum => k_is)
    (case mkSum => k_is)
    (case kpSum => k_is)
    (case clSum => k_is)
    (case gtSum => k_is)
    (case tkSum => k_is)
    (case moSum => k_is)
    (case na_Sum_prime => k_is)
    (case na_Sum_factors => k_is)
    (case pgSpace => k_is)
    (case hdSpace => k_is)
    (case poSpace => k_is)
    (case saSpace => k_is)
    (case mkSpace => k_is)
    (case kpSpace => k_is)
    (case clSpace => k_is)
    (case gtSpace => k_is)
    (case tkSpace => k_is)
    (case moSpace => k_is)
    (case na_Space_prime => k_is)
    (case na_Space_size => k_is)
    (case na_Space_rows => k_is)
    (case na_Space_reduced => k_is)
    (case pgTable => k_is)
    (case hdTable => k_is)
    (case poTable => k_is)
    (case saTable => k_is)
    (case mkTable => k_is)
    (case kpTable => k_is)
    (case clTable => k_is)
    (case gtTable => k_is)
    (case tkTable => k_is)
    (case moTable => k_is)
    (case na_Table_prime => k_is)
    (case na_Table_size => k_is)
    (case na_Table_pieces => k_is)
    (case na_Table_spots => k_is)
    (case na_Table_sums => k_is)
    (case na_Table_whole => k_is)
    (case gc_MOST_PIECES => k_is)
    (case gc_MOST_PARTS => k_is)
    (case gc_MOST_PARTS_IN_ALL => k_is)
    (case nsC => k_is)
    (case ksC => kit_is)
    (case gG => k_is)
    (case lG => k_is)
    (case eG => exact ⟨by decide +kernel, by decide +kernel, by decide +kernel, by decide +kernel⟩)
    (case oG => decide +kernel)
    (case sfC => k_is)
    (case rmC => k_is)
    (case imC => exact ⟨_, by k_is⟩)
    (case irC => exact ⟨_, by k_is⟩)
    (case isC => k_is)
    (case fiC => k_is)
    (case gfP => k_is)
    (case ktNoneType => kit_is)
    (case ktint => kit_is)
    (case ktstr => kit_is)
    (case kttuple => kit_is)
    (case ktlist => kit_is)
